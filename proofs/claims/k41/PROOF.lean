import PyProof.Rows.All
import Wide.All
import OpenK.AllK
import Wide.FinOn
import Lean
import PyProof.EqAt
import PyProof.EqKinds
import PyProof.TupleCall
import PyProof.NeKinds
import PyProof.ConsumeWalk
import KE.IntBitsLaws
import PyProof.DictWalks
import PyProof.DictRoadsH
import KE.KDictList
import PyProof.RaisesMany
import PyProof.StationsW
import PyProof.ExcClass2
import PyProof.RulesTry
import PyProof.ExcBaseAll.ValueError
import PyProof.Rows.FStr
import KE.KLam
import KE.KNestM
import PyProof.Seq
import PyProof.Walks
import PyProof.SumWalkG
import PyProof.FactsTree
import PyProof.CodeObj
import PyProof.WalkInts
import KE.KIsNot
import OpenK.KDescr
import OpenK.KCls
import PyProof.ExcAttrAll.ValueError
import KE.KIsAll
import PyProof.RulesAs
import PyProof.DictCompW
import PyProof.Rows.SumGenD
import KE.KNest
import PyProof.Rows.SetFrom
import PyProof.SetRoads
import PyProof.Rows.SortShell
import KE.KDictSum
import PyProof.ListMulRoad
import PySem.Sem
import PySem.Builtin.Str.Common
import PySem.Eval
import PyProof.InstStoreFacts
import PyProof.ExcArgsOwn
import PyProof.ExcInit
import PySem.Challenge.RW_namewants_k41_whole_joined_asks
import PyProof.TableCode
set_option Elab.async false
set_option linter.all false
set_option maxRecDepth 100000
set_option maxHeartbeats 4000000
noncomputable section
abbrev Fg:=PySem.W.Frag
abbrev Sh:=PySem.Shared
section
open PySem PySem.W PyProof.Rows
namespace TreeRun
def CM (tb:String->Option Builtin)(p:Program)(w:World)(m:Nat)(ann:Option Value):Nat->SharedT->Thread->Option SharedT
 | 0,_,_=>none
 | k+1,s,t=>match through t,stepOk m ann t with
  | true,_=>some s
  | false,false=>none
  | false,true=>match stepT (denote tb) p w s t with
   | none=>none
   | some (s2,t2)=>CM tb p w m ann k s2 t2
theorem xQ {tb:String->Option Builtin}{p:Program}{w:World}{m:Nat}{ann:Option Value}:∀{k:Nat} {s s':SharedT} {t:Thread},CM tb p w m ann k s t=some s'->topRun tb p w m ann k s.abs t=some s'.abs
 | 0,_,_,_,h=>by cases h
 | k+1,s,s',t,h=>by
  unfold CM at h;unfold topRun;cases h1:through t with
  | true=>rw[h1] at h;cases h;rfl
  | false=>
   cases h2:stepOk m ann t with
   | false=>rw[h1,h2] at h;cases h
   | true=>
    rw[h1,h2] at h;dsimp only at h ⊢;cases h3:stepT (denote tb) p w s t with
    | none=>rw[h3] at h;cases h
    | some r=>obtain⟨s2,t2⟩:=r;rw[h3] at h;rw[stepT_spec h3];exact xQ h
def AF:Nat->BT->List Obj->BT
 | _,t,[]=>t
 | n,t,o::os=>AF (n+1) (t.ins n o) os
def sT (P:Params)(os:OsState):SharedT:=⟨AF 0 .nil (boot_heap P).objs.toList,(boot_heap P).objs.toList.length,(boot_heap P).life,#[],boot_drawn,boot_toks,os⟩
theorem Kz (P:Params)(os:OsState):(sT P os).abs=⟨boot_heap P,#[],boot_drawn,boot_toks,os⟩:=by kernel_rfl
def ends (p:Program)(w:World)(os:OsState)(N:Nat):Option SharedT:=CM treeTable p w (boot_heap w.params).objs.size ((boot_heap w.params).nsMap mainGlobals "__annotations__") N (sT w.params os) (topStub p)
theorem Ja (P:Params):((boot_heap P).isNs mainGlobals&&(#[]:Array GenState).size==0)=true:=by kernel_rfl
def fit (p:Program)(P:Params)(s:SharedT):Bool:=staticsOk (importedModules p.main.body) (boot_heap P) s.abs.heap&&namesBound p s.abs.heap&&gensDone s.abs&&laidKept (boot_heap P) s.abs.heap
end TreeRun
end
section
open PySem PySem.W PyProof.Rows PySem.Calls
namespace TreeRun
def goN (tb:String->Option Builtin)(p:Program)(w:World)(m:Nat)(ann:Option Value):Nat->SharedT->Thread->Option (SharedT×Thread)
 | 0,s,t=>some (s,t)
 | k+1,s,t=>match through t,stepOk m ann t with
  | true,_=>none
  | false,false=>none
  | false,true=>match stepT (denote tb) p w s t with
   | none=>none
   | some (s2,t2)=>goN tb p w m ann k s2 t2
theorem xJ {tb:String->Option Builtin}{p:Program}{w:World}{m:Nat}{ann:Option Value}:∀{k:Nat} {s s':SharedT} {t t':Thread},goN tb p w m ann k s t=some (s',t')->topGo tb p w m ann k s.abs t=some (s'.abs,t')
 | 0,_,_,_,_,h=>by cases h;rfl
 | k+1,s,s',t,t',h=>by
  unfold goN at h;unfold topGo;cases h1:through t with
  | true=>rw[h1] at h;cases h
  | false=>
   cases h2:stepOk m ann t with
   | false=>rw[h1,h2] at h;cases h
   | true=>
    rw[h1,h2] at h;dsimp only at h ⊢;cases h3:stepT (denote tb) p w s t with
    | none=>rw[h3] at h;cases h
    | some r=>obtain⟨s2,t2⟩:=r;rw[h3] at h;rw[stepT_spec h3];exact xJ h
abbrev m0 (w:World):Nat:=(boot_heap w.params).objs.size
abbrev tR (w:World):Option Value:=(boot_heap w.params).nsMap mainGlobals "__annotations__"
def ahead (p:Program)(n:Nat)(w:World)(os:OsState):SharedT:=((goN treeTable p w (m0 w) (tR w) n (sT w.params os) (topStub p)).map (·.1)).getD (sT w.params os)
def later (p:Program)(mid:Params->OsState->SharedT)(env:Env)(b rest:List Stmt)(pos qp:Pos)(N:Nat)(w:World)(os:OsState):Option SharedT:=CM treeTable p w (m0 w) (tR w) N (mid w.params os) (restOf rest env (.body b env) pos [topFrame qp])
theorem FI {p q:Program}{loose:List Str}{Xt:Sh->Bool}{α:Type}{Yf:Sh->α}{Ya:World->α}{N n0 n1 N2:Nat}{env:Env}{b l rest:List Stmt}{Nb Nc xR qp:Pos}{mid:Params->OsState->SharedT}
 (e:opening p=plainProg p.main.scope.names) (hN:Nat.ble 600 N=true) (hf:∀s,fenceModules? p s=some s) (hb:l++rest=b) (hM:Nat.ble (n0+(1+(n1+N2))) N=true)
 (c1:∀w os,goN treeTable p w (m0 w) (tR w) n0 (sT w.params os) (topStub p)=some (ahead p n0 w os,⟨denote treeTable (.body b env),.body b env,Nb,[topFrame qp]⟩))
 (c2:∀w os,segRunT treeTable p w (m0 w) (tR w) 1 1 (ahead p n0 w os) (blockOf b env (.body b env) Nb [topFrame qp])=some (.next,ahead p n0 w os,.body b env,Nc))
 (c3:∀w os,segRunT treeTable p w (m0 w) (tR w) 1 n1 (ahead p n0 w os) (piecesOf l env (.body b env) Nc [topFrame qp])=some (.next,mid w.params os,.body b env,xR))
 (h1:∀w os,(later p mid env b rest xR qp N2 w os).map (fit p w.params)=some true)
 (h2:∀w os,(later p mid env b rest xR qp N2 w os).map (λs=>openSeen q loose (importedModules p.main.body) Xt true s.abs)=some (openGood q loose))
 (h3:∀w os,(later p mid env b rest xR qp N2 w os).map (λs=>Yf s.abs)=some (Ya w)):LeftO p q loose Xt Yf Ya N true:=λw=>by
 obtain⟨⟨h,gs,d,k,os⟩,e0,e1⟩:=Option.map_eq_some_iff.mp (boot_open e hN hf w);obtain⟨rfl,rfl,rfl,rfl⟩:h=boot_heap w.params/\gs=Array.mk []/\d=boot_drawn/\k=boot_toks:=by simpa using e1
 have g1:=h1 w os;have g2:=h2 w os;have g3:=h3 w os;cases hs:later p mid env b rest xR qp N2 w os with
 | none=>rw[hs] at g1;cases g1
 | some s=>
  rw[hs] at g1 g2 g3;have g1:fit p w.params s=true:=by simpa using g1
  have g2:openSeen q loose (importedModules p.main.body) Xt true s.abs=openGood q loose:=Option.some.inj g2;have g3:Yf s.abs=Ya w:=Option.some.inj g3;have r0:=xQ hs;have r1:=piece_app (segRun_of (c3 w os)) r0;rw[hb] at r1;have r2:=piece_block (segRun_of (c2 w os)) r1;have r3:=go_top (xJ (c1 w os)) r2;have r:=topRun_mono (N-(n0+(1+(n1+N2)))) _ _ _ _ r3;rw[show n0+(1+(n1+N2))+(N-(n0+(1+(n1+N2))))=N by have:=Nat.le_of_ble_eq_true hM;omega,Kz] at r;have t:topFrom treeTable p w N ⟨boot_heap w.params,#[],boot_drawn,boot_toks,os⟩=some s.abs:=by unfold topFrom;dsimp only;rw[Ja,r];show (match fit p w.params s with | true=>some s.abs | false=>none)=_;rw[g1]
  unfold openEnds;rw[e0];show (topFrom treeTable p w N _).map _=_;rw[t];exact congrArg some (Prod.ext g2 g3)
end TreeRun
end
namespace L2
open PySem
def cP (s:Stmt):Arguments:=match s with
 | .FunctionDef _ a _ _ _ _ _ _ _ _=>a
 | _=>{ posonlyargs:=[],args:=[],vararg:=none,kwonlyargs:=[],kw_defaults:=[],kwarg:=none,defaults:=[] }
def cz (s:Stmt):List Stmt:=match s with
 | .FunctionDef _ _ b _ _ _ _ _ _ _=>b
 | _=>[]
noncomputable def bo (s:Stmt):Scope:=match s with
 | .FunctionDef _ _ _ _ _ _ sc _ _ _=>sc
 | _=>{ kind:=.function,names:=[],isGenerator:=false,isCoroutine:=false }
end L2
namespace Q41
open PySem
noncomputable def top (i:Nat):Stmt:=PySem.Challenge.pw_namewants_k41_whole_joined_asks.main.body.getD i (.Pass ⟨0,0,0,0⟩)
noncomputable def aD (s:Stmt)(j:Nat):Stmt:=match s with | .ClassDef _ _ _ b _ _ _ _ _ _ _=>b.getD j (.Pass ⟨0,0,0,0⟩) | _=>.Pass ⟨0,0,0,0⟩
end Q41
section
noncomputable abbrev Q41.fo (st:PySem.Stmt)(x q:PySem.Str)(m:PySem.Str)(t:PySem.Tok)(c:PySem.Addr):PySem.Obj:=⟨.type "function",none,.func (PySem.W.fnOf x q (L2.cP st) (L2.cz st) (L2.bo st) .none .none .none (.str m t) none (.ref c) .none),#[]⟩
noncomputable def Q41.fc (x q:PySem.Str)(st:PySem.Stmt):PySem.Obj:=⟨.none,none,.func { PySem.W.fnOf x q (L2.cP st) (L2.cz st) (L2.bo st) .none .none .none .none none .none .none with globals:=0 },#[]⟩
noncomputable abbrev Q41.e (P:PySem.Params)(x:PySem.Str)(n:PySem.Tok)(v:PySem.Value):PySem.DictEntry:=⟨PySem.PyData.keyHash P x,.str x n,v⟩
noncomputable abbrev Q41.co (x q:PySem.Str)(t l a r n:Nat):PySem.Obj:={ cls:=.type "code",data:=.fields #[.str x t,.str q (t+1),.str "/claim/cut.py" (t+2),.int l 0,.int a 0,.int 0 0,.int 0 0,.int 3 0,.ref r,.bool true,.int 181 0,.ref (r+1),.none,.ref (r+2),.ref (r+3),.ref (r+4),.int n 0,.int l 0,.str "/claim/cut.py" (n+1)] }
noncomputable abbrev Q41.cp (x q:PySem.Str)(t l a r:Nat):PySem.Obj:={ cls:=.type "code",data:=.fields #[.str x t,.str q (t+1),.str "/claim/cut.py" (t+2),.int l 0,.int a 0,.int 0 0,.int 0 0,.int 3 0,.ref r,.bool true,.int 181 0,.ref (r+1),.none,.none,.none,.ref (r+2),.int ((t:Nat)+3:Nat) 0,.int l 0,.str "/claim/cut.py" (t+4)] }
noncomputable abbrev Q41.ck (x:PySem.Str)(t l r:Nat):PySem.Obj:={ cls:=.type "code",data:=.fields #[.str x t,.str x (t+1),.str "/claim/cut.py" (t+2),.int l 0,.int 0 0,.int 0 0,.int 0 0,.int 0 0,.ref r,.bool false,.int 181 0,.ref (r+1),.none,.none,.none,.none,.int ((t:Nat)+3:Nat) 0,.int l 0,.str "/claim/cut.py" (t+4)] }
noncomputable abbrev Q41.ex (x:PySem.Str)(a b c t u:Nat):PySem.Obj:={ cls:=.type "type",data:=.cls { name:=x,bases:=[.ref 31],mro:=[.ref a,.ref 31,.type "ValueError",.type "Exception",.type "BaseException",.type "object"],ns:=b,qualname:=x },slots:=#[some (.ref c),none,some (.str x t),some (.str x u),some (.builtin "ValueError.__new__"),some (.bool true)] }
noncomputable abbrev Q41.tu (a:Array PySem.Value):PySem.Obj:={ cls:=.type "tuple",data:=.seq a }
noncomputable abbrev Q41.nf (a:Array PySem.Value):PySem.Obj:={ cls:=.none,data:=.fields a }
noncomputable abbrev Q41.di (a:Array PySem.DictEntry):PySem.Obj:={ cls:=.type "dict",data:=.dict a }
noncomputable abbrev Q41.fr (a:Array (Option PySem.Value)):PySem.Obj:={ cls:=.type "frame",slots:=a }
noncomputable abbrev Q41.gs (a:Array PySem.Value):PySem.Obj:={ cls:=.type "getset_descriptor",data:=.fields a }
noncomputable def PySem.W.Fast.tw8184188935481741168:PySem.Program:=PySem.Challenge.pw_namewants_k41_whole_joined_asks
theorem PySem.W.Fast.te8184188935481741168:PySem.Challenge.pw_namewants_k41_whole_joined_asks=PySem.W.Fast.tw8184188935481741168:=rfl
namespace Q41
noncomputable def Kf:PySem.Params->PySem.W.Frag:=λP=>
(nat_lit 2,{ cls:=.none,data:=.dict #[] }) ::
(nat_lit 3,{ cls:=.type "dict",data:=.dict #[e P "__name__" 165 (.str "law_namewants_k41_whole_joined_asks" 863),e P "__doc__" 166 (.none),e P "__package__" 167 (.none),e P "__loader__" 168 (.builtin "__main__.__loader__#opaque"),e P "__spec__" 169 (.none),e P "__annotations__" 170 (.ref 6),e P "__builtins__" 171 (.ref 4),e P "__file__" 173 (.str "/claim/cut.py" 172),e P "__cached__" 174 (.none),e P "_wall" 193 (.ref 21),e P "WantError" 213 (.ref 31),e P "BadName" 229 (.ref 44),e P "BadSides" 245 (.ref 56),e P "BadNumber" 261 (.ref 68),e P "BadLetter" 277 (.ref 80),e P "NoWay" 293 (.ref 92),e P "VALUE_MOST" 297 (.int 999 296),e P "SIDE_MOST" 299 (.int 7 298),e P "LIFE_MOST" 301 (.int 99 300),e P "is_whole" 308 (.ref 101),e P "is_within" 317 (.ref 108),e P "is_value" 324 (.ref 115),e P "is_side" 331 (.ref 122),e P "is_tick" 338 (.ref 129),e P "is_sides" 344 (.ref 134),e P "need_within" 353 (.ref 141),e P "need_value" 360 (.ref 148),e P "need_life" 367 (.ref 155),e P "need_tick" 374 (.ref 162),e P "need_sides" 381 (.ref 169),e P "SIGNS" 385 (.str "abcdefghijklmnopqrstuvwxyz0123456789" 384),e P "PART_LONGEST" 387 (.int 4 386),e P "NAME_LONGEST" 389 (.int 5 388),e P "is_part" 395 (.ref 174),e P "is_name" 401 (.ref 179),e P "is_beginning" 408 (.ref 186),e P "need_name" 415 (.ref 193),e P "need_beginning" 422 (.ref 200),e P "ROOM_MOST" 426 (.int 9 425),e P "Keeps" 498 (.ref 250),e P "Table" 601 (.ref 332),e P "WAIT_LEAST" 605 (.int 1 604),e P "WAIT_MOST" 607 (.int 20 606),e P "is_letter" 614 (.ref 343),e P "Wait" 646 (.ref 360),e P "House" 862 (.ref 516),e P "_law_cell" 872 (.ref 527),e P "_law_drawn" 881 (.ref 534),e P "_law_roll" 890 (.ref 541),e P "_law_rounds" 896 (.ref 546),e P "_law_head" 902 (.ref 551),e P "_law_any_name" 909 (.ref 558),e P "_law_some_sides" 919 (.ref 565),e P "_law_thing_comes" 925 (.ref 570),e P "_law_noes_come" 931 (.ref 575),e P "law" 937 (.ref 580)] 56 }) ::
(nat_lit 30,{ cls:=.type "dict",data:=.dict #[e P "__module__" 203 (.str "namewants.errors" 194),e P "__firstlineno__" 207 (.int 5 206),e P "__static_attributes__" 208 (.ref 29),e P "__weakref__" 210 (.ref 32),e P "__doc__" 211 (.none)] 3 }) ::
(nat_lit 31,{ cls:=.type "type",data:=.cls { name:="WantError",bases:=[.type "ValueError"],mro:=[.ref 31,.type "ValueError",.type "Exception",.type "BaseException",.type "object"],ns:=30,qualname:="WantError",subclasses:=[.ref 44,.ref 56,.ref 68,.ref 80,.ref 92] },slots:=#[some (.ref 22),none,some (.str "WantError" 196),some (.str "WantError" 204),some (.builtin "ValueError.__new__"),some (.bool true)] }) ::
(nat_lit 43,{ cls:=.type "dict",data:=.dict #[e P "__module__" 221 (.str "namewants.errors" 194),e P "__firstlineno__" 225 (.int 7 224),e P "__static_attributes__" 226 (.ref 42),e P "__doc__" 227 (.none)] 2 }) ::
(nat_lit 44,ex "BadName" 44 43 35 214 222) ::
(nat_lit 55,{ cls:=.type "dict",data:=.dict #[e P "__module__" 237 (.str "namewants.errors" 194),e P "__firstlineno__" 241 (.int 9 240),e P "__static_attributes__" 242 (.ref 54),e P "__doc__" 243 (.none)] 2 }) ::
(nat_lit 56,ex "BadSides" 56 55 47 230 238) ::
(nat_lit 67,{ cls:=.type "dict",data:=.dict #[e P "__module__" 253 (.str "namewants.errors" 194),e P "__firstlineno__" 257 (.int 11 256),e P "__static_attributes__" 258 (.ref 66),e P "__doc__" 259 (.none)] 2 }) ::
(nat_lit 68,ex "BadNumber" 68 67 59 246 254) ::
(nat_lit 79,{ cls:=.type "dict",data:=.dict #[e P "__module__" 269 (.str "namewants.errors" 194),e P "__firstlineno__" 273 (.int 13 272),e P "__static_attributes__" 274 (.ref 78),e P "__doc__" 275 (.none)] 2 }) ::
(nat_lit 80,ex "BadLetter" 80 79 71 262 270) ::
(nat_lit 91,{ cls:=.type "dict",data:=.dict #[e P "__module__" 285 (.str "namewants.errors" 194),e P "__firstlineno__" 289 (.int 15 288),e P "__static_attributes__" 290 (.ref 90),e P "__doc__" 291 (.none)] 2 }) ::
(nat_lit 92,ex "NoWay" 92 91 83 278 286) ::
(nat_lit 100,co "is_whole" "is_whole" 302 21 1 95 306) ::
(nat_lit 101,fo (top 12) "is_whole" "is_whole" "namewants.checks" 294 100) ::
(nat_lit 107,co "is_within" "is_within" 309 23 3 102 315) ::
(nat_lit 108,fo (top 13) "is_within" "is_within" "namewants.checks" 294 107) ::
(nat_lit 114,co "is_value" "is_value" 318 25 1 109 322) ::
(nat_lit 115,fo (top 14) "is_value" "is_value" "namewants.checks" 294 114) ::
(nat_lit 121,co "is_side" "is_side" 325 27 1 116 329) ::
(nat_lit 122,fo (top 15) "is_side" "is_side" "namewants.checks" 294 121) ::
(nat_lit 128,co "is_tick" "is_tick" 332 29 1 123 336) ::
(nat_lit 129,fo (top 16) "is_tick" "is_tick" "namewants.checks" 294 128) ::
(nat_lit 133,cp "is_sides" "is_sides" 339 31 1 130) ::
(nat_lit 134,fo (top 17) "is_sides" "is_sides" "namewants.checks" 294 133) ::
(nat_lit 140,co "need_within" "need_within" 345 37 3 135 351) ::
(nat_lit 141,fo (top 18) "need_within" "need_within" "namewants.checks" 294 140) ::
(nat_lit 147,co "need_value" "need_value" 354 40 1 142 358) ::
(nat_lit 148,fo (top 19) "need_value" "need_value" "namewants.checks" 294 147) ::
(nat_lit 161,co "need_tick" "need_tick" 368 44 1 156 372) ::
(nat_lit 162,fo (top 21) "need_tick" "need_tick" "namewants.checks" 294 161) ::
(nat_lit 168,co "need_sides" "need_sides" 375 47 1 163 379) ::
(nat_lit 169,fo (top 22) "need_sides" "need_sides" "namewants.checks" 294 168) ::
(nat_lit 173,cp "is_part" "is_part" 390 54 1 170) ::
(nat_lit 174,fo (top 27) "is_part" "is_part" "namewants.names" 382 173) ::
(nat_lit 178,cp "is_name" "is_name" 396 58 1 175) ::
(nat_lit 179,fo (top 28) "is_name" "is_name" "namewants.names" 382 178) ::
(nat_lit 185,co "is_beginning" "is_beginning" 402 62 1 180 406) ::
(nat_lit 186,fo (top 29) "is_beginning" "is_beginning" "namewants.names" 382 185) ::
(nat_lit 192,co "need_name" "need_name" 409 64 1 187 413) ::
(nat_lit 193,fo (top 30) "need_name" "need_name" "namewants.names" 382 192) ::
(nat_lit 199,co "need_beginning" "need_beginning" 416 67 1 194 420) ::
(nat_lit 200,fo (top 31) "need_beginning" "need_beginning" "namewants.names" 382 199) ::
(nat_lit 213,co "__init__" "Keeps.__init__" 439 74 2 208 444) ::
(nat_lit 214,fo (aD (top 34) 0) "__init__" "Keeps.__init__" "namewants.keeps" 423 213) ::
(nat_lit 220,co "put" "Keeps.put" 447 79 5 215 455) ::
(nat_lit 221,fo (aD (top 34) 1) "put" "Keeps.put" "namewants.keeps" 423 220) ::
(nat_lit 227,co "got" "Keeps.got" 458 91 3 222 465) ::
(nat_lit 228,fo (aD (top 34) 2) "got" "Keeps.got" "namewants.keeps" 423 227) ::
(nat_lit 239,cp "rows" "Keeps.rows" 476 103 1 236) ::
(nat_lit 240,fo (aD (top 34) 4) "rows" "Keeps.rows" "namewants.keeps" 423 239) ::
(nat_lit 246,co "__len__" "Keeps.__len__" 482 106 1 241 486) ::
(nat_lit 247,fo (aD (top 34) 5) "__len__" "Keeps.__len__" "namewants.keeps" 423 246) ::
(nat_lit 249,{ cls:=.type "dict",data:=.dict #[e P "__module__" 434 (.str "namewants.keeps" 423),e P "__firstlineno__" 438 (.int 72 437),e P "__init__" 446 (.ref 214),e P "put" 457 (.ref 221),e P "got" 467 (.ref 228),e P "aged" 475 (.ref 235),e P "rows" 481 (.ref 240),e P "__len__" 488 (.ref 247),e P "__static_attributes__" 491 (.ref 248),e P "__dict__" 493 (.ref 251),e P "__weakref__" 495 (.ref 252),e P "__doc__" 496 (.none)] 4 }) ::
(nat_lit 250,{ cls:=.type "type",data:=.cls { name:="Keeps",bases:=[.type "object"],mro:=[.ref 250,.type "object"],ns:=249,qualname:="Keeps" },slots:=#[none,none,some (.str "Keeps" 427),some (.str "Keeps" 435),some (.builtin "object.__new__"),some (.bool true)] }) ::
(nat_lit 267,co "__init__" "Table.__init__" 513 111 1 262 517) ::
(nat_lit 268,fo (aD (top 36) 0) "__init__" "Table.__init__" "namewants.tables" 499 267) ::
(nat_lit 274,co "put" "Table.put" 520 114 3 269 526) ::
(nat_lit 275,fo (aD (top 36) 1) "put" "Table.put" "namewants.tables" 499 274) ::
(nat_lit 288,co "way" "Table.way" 537 122 2 283 544) ::
(nat_lit 289,fo (aD (top 36) 3) "way" "Table.way" "namewants.tables" 499 288) ::
(nat_lit 295,co "sides" "Table.sides" 547 130 2 290 553) ::
(nat_lit 296,fo (aD (top 36) 4) "sides" "Table.sides" "namewants.tables" 499 295) ::
(nat_lit 300,cp "rows" "Table.rows" 556 134 1 297) ::
(nat_lit 301,fo (aD (top 36) 5) "rows" "Table.rows" "namewants.tables" 499 300) ::
(nat_lit 321,co "__len__" "Table.__len__" 577 143 1 316 581) ::
(nat_lit 322,fo (aD (top 36) 8) "__len__" "Table.__len__" "namewants.tables" 499 321) ::
(nat_lit 331,{ cls:=.type "dict",data:=.dict #[e P "__module__" 508 (.str "namewants.tables" 499),e P "__firstlineno__" 512 (.int 109 511),e P "__init__" 519 (.ref 268),e P "put" 528 (.ref 275),e P "drop" 536 (.ref 282),e P "way" 546 (.ref 289),e P "sides" 555 (.ref 296),e P "rows" 561 (.ref 301),e P "parted" 569 (.ref 308),e P "lean" 576 (.ref 315),e P "__len__" 583 (.ref 322),e P "__eq__" 591 (.ref 329),e P "__static_attributes__" 593 (.ref 330),e P "__dict__" 595 (.ref 333),e P "__weakref__" 597 (.ref 334),e P "__doc__" 598 (.none),e P "__hash__" 599 (.none)] 5 }) ::
(nat_lit 332,{ cls:=.type "type",data:=.cls { name:="Table",bases:=[.type "object"],mro:=[.ref 332,.type "object"],ns:=331,qualname:="Table" },slots:=#[none,none,some (.str "Table" 501),some (.str "Table" 509),some (.builtin "object.__new__"),some (.bool true)] }) ::
(nat_lit 342,co "is_letter" "is_letter" 608 151 1 337 612) ::
(nat_lit 343,fo (top 40) "is_letter" "is_letter" "namewants.houses" 602 342) ::
(nat_lit 356,co "__init__" "Wait.__init__" 627 159 2 351 632) ::
(nat_lit 357,fo (aD (top 41) 0) "__init__" "Wait.__init__" "namewants.houses" 602 356) ::
(nat_lit 359,{ cls:=.type "dict",data:=.dict #[e P "__module__" 622 (.str "namewants.houses" 602),e P "__firstlineno__" 626 (.int 157 625),e P "__init__" 634 (.ref 357),e P "__static_attributes__" 639 (.ref 358),e P "__dict__" 641 (.ref 361),e P "__weakref__" 643 (.ref 362),e P "__doc__" 644 (.none)] 4 }) ::
(nat_lit 360,{ cls:=.type "type",data:=.cls { name:="Wait",bases:=[.type "object"],mro:=[.ref 360,.type "object"],ns:=359,qualname:="Wait" },slots:=#[none,none,some (.str "Wait" 615),some (.str "Wait" 623),some (.builtin "object.__new__"),some (.bool true)] }) ::
(nat_lit 372,{ cls:=.type "dict",data:=.dict #[e P "room" 661 (.int 4 659),e P "wait" 662 (.int 6 660)] 2 }) ::
(nat_lit 378,{ cls:=.type "code",data:=.fields #[.str "__init__" 663,.str "House.__init__" 664,.str "/claim/cut.py" 665,.int 166 0,.int 3 0,.int 0 0,.int 2 0,.int 3 0,.ref 373,.bool true,.int 181 0,.ref 374,.none,.ref 375,.ref 376,.ref 377,.int 671 0,.int 166 0,.str "/claim/cut.py" 672] }) ::
(nat_lit 379,⟨.type "function",none,.func (PySem.W.fnOf "__init__" "House.__init__" (L2.cP (aD (top 42) 0)) (L2.cz (aD (top 42) 0)) (L2.bo (aD (top 42) 0)) .none (.ref 372) .none (.str "namewants.houses" 602) none (.ref 378) .none),#[]⟩) ::
(nat_lit 385,co "ask" "House.ask" 674 182 3 380 681) ::
(nat_lit 386,fo (aD (top 42) 1) "ask" "House.ask" "namewants.houses" 602 385) ::
(nat_lit 392,co "come" "House.come" 684 189 4 387 692) ::
(nat_lit 393,fo (aD (top 42) 2) "come" "House.come" "namewants.houses" 602 392) ::
(nat_lit 420,co "teach" "House.teach" 721 216 3 415 727) ::
(nat_lit 421,fo (aD (top 42) 6) "teach" "House.teach" "namewants.houses" 602 420) ::
(nat_lit 434,co "end" "House.end" 738 222 2 429 743) ::
(nat_lit 435,fo (aD (top 42) 8) "end" "House.end" "namewants.houses" 602 434) ::
(nat_lit 441,co "waits" "House.waits" 746 227 1 436 753) ::
(nat_lit 442,fo (aD (top 42) 9) "waits" "House.waits" "namewants.houses" 602 441) ::
(nat_lit 448,co "keeps" "House.keeps" 756 234 1 443 760) ::
(nat_lit 449,fo (aD (top 42) 10) "keeps" "House.keeps" "namewants.houses" 602 448) ::
(nat_lit 474,cp "toward" "House.toward" 785 246 2 471) ::
(nat_lit 475,fo (aD (top 42) 14) "toward" "House.toward" "namewants.houses" 602 474) ::
(nat_lit 481,co "found" "House.found" 791 249 3 476 800) ::
(nat_lit 482,fo (aD (top 42) 15) "found" "House.found" "namewants.houses" 602 481) ::
(nat_lit 486,cp "answered" "House.answered" 803 258 4 483) ::
(nat_lit 487,fo (aD (top 42) 16) "answered" "House.answered" "namewants.houses" 602 486) ::
(nat_lit 491,cp "told_thing" "House.told_thing" 809 272 4 488) ::
(nat_lit 492,fo (aD (top 42) 17) "told_thing" "House.told_thing" "namewants.houses" 602 491) ::
(nat_lit 498,co "told_no" "House.told_no" 815 279 3 493 822) ::
(nat_lit 499,fo (aD (top 42) 18) "told_no" "House.told_no" "namewants.houses" 602 498) ::
(nat_lit 505,co "ended" "House.ended" 825 285 2 500 831) ::
(nat_lit 506,fo (aD (top 42) 19) "ended" "House.ended" "namewants.houses" 602 505) ::
(nat_lit 512,co "told" "House.told" 834 289 3 507 843) ::
(nat_lit 513,fo (aD (top 42) 20) "told" "House.told" "namewants.houses" 602 512) ::
(nat_lit 515,{ cls:=.type "dict",data:=.dict #[e P "__module__" 654 (.str "namewants.houses" 602),e P "__firstlineno__" 658 (.int 164 657),e P "__init__" 673 (.ref 379),e P "ask" 683 (.ref 386),e P "come" 694 (.ref 393),e P "tick" 702 (.ref 400),e P "own" 712 (.ref 407),e P "disown" 720 (.ref 414),e P "teach" 729 (.ref 421),e P "forget" 737 (.ref 428),e P "end" 745 (.ref 435),e P "waits" 755 (.ref 442),e P "keeps" 762 (.ref 449),e P "owns" 769 (.ref 456),e P "table" 776 (.ref 463),e P "has" 784 (.ref 470),e P "toward" 790 (.ref 475),e P "found" 802 (.ref 482),e P "answered" 808 (.ref 487),e P "told_thing" 814 (.ref 492),e P "told_no" 824 (.ref 499),e P "ended" 833 (.ref 506),e P "told" 845 (.ref 513),e P "__static_attributes__" 855 (.ref 514),e P "__dict__" 857 (.ref 517),e P "__weakref__" 859 (.ref 518),e P "__doc__" 860 (.none)] 4 }) ::
(nat_lit 516,{ cls:=.type "type",data:=.cls { name:="House",bases:=[.type "object"],mro:=[.ref 516,.type "object"],ns:=515,qualname:="House" },slots:=#[none,none,some (.str "House" 647),some (.str "House" 655),some (.builtin "object.__new__"),some (.bool true)] }) ::
(nat_lit 526,co "_law_cell" "_law_cell" 865 299 2 521 870) ::
(nat_lit 527,fo (top 44) "_law_cell" "_law_cell" "law_namewants_k41_whole_joined_asks" 863 526) ::
(nat_lit 533,co "_law_drawn" "_law_drawn" 873 303 2 528 879) ::
(nat_lit 534,fo (top 45) "_law_drawn" "_law_drawn" "law_namewants_k41_whole_joined_asks" 863 533) ::
(nat_lit 540,co "_law_roll" "_law_roll" 882 308 2 535 888) ::
(nat_lit 541,fo (top 46) "_law_roll" "_law_roll" "law_namewants_k41_whole_joined_asks" 863 540) ::
(nat_lit 545,cp "_law_rounds" "_law_rounds" 891 315 2 542) ::
(nat_lit 546,fo (top 47) "_law_rounds" "_law_rounds" "law_namewants_k41_whole_joined_asks" 863 545) ::
(nat_lit 550,cp "_law_head" "_law_head" 897 317 1 547) ::
(nat_lit 551,fo (top 48) "_law_head" "_law_head" "law_namewants_k41_whole_joined_asks" 863 550) ::
(nat_lit 557,co "_law_any_name" "_law_any_name" 903 320 1 552 907) ::
(nat_lit 558,fo (top 49) "_law_any_name" "_law_any_name" "law_namewants_k41_whole_joined_asks" 863 557) ::
(nat_lit 564,co "_law_some_sides" "_law_some_sides" 910 322 2 559 917) ::
(nat_lit 565,fo (top 50) "_law_some_sides" "_law_some_sides" "law_namewants_k41_whole_joined_asks" 863 564) ::
(nat_lit 569,cp "_law_thing_comes" "_law_thing_comes" 920 328 7 566) ::
(nat_lit 570,fo (top 51) "_law_thing_comes" "_law_thing_comes" "law_namewants_k41_whole_joined_asks" 863 569) ::
(nat_lit 574,cp "_law_noes_come" "_law_noes_come" 926 337 5 571) ::
(nat_lit 575,fo (top 52) "_law_noes_come" "_law_noes_come" "law_namewants_k41_whole_joined_asks" 863 574) ::
(nat_lit 579,cp "law" "law" 932 345 1 576) ::
(nat_lit 580,fo (top 53) "law" "law" "law_namewants_k41_whole_joined_asks" 863 579)::[]
end Q41
noncomputable def PySem.W.Fast.tw6586513922312973542:PySem.Params->PySem.W.Frag:=Q41.Kf
theorem PySem.W.Fast.te6586513922312973542:Q41.Kf=PySem.W.Fast.tw6586513922312973542:=rfl
namespace Q41
noncomputable def vw:PySem.Program:={ PySem.Challenge.pw_namewants_k41_whole_joined_asks with main:={ (PySem.Challenge.pw_namewants_k41_whole_joined_asks).main with body:=top 0::top 2::top 3::top 4::top 5::top 6::top 7::top 9::top 10::top 11::top 12::top 13::top 14::top 15::top 16::top 17::top 18::top 19::top 20::top 21::top 22::top 24::top 25::top 26::top 27::top 28::top 29::top 30::top 31::top 33::top 34::top 36::top 38::top 39::top 40::top 41::top 42::top 44::top 45::top 46::top 47::top 48::top 49::top 50::top 51::top 52::top 53::[] } }
end Q41
noncomputable abbrev Q41.Hk:List PySem.Addr:=[2,3,30,31,43,44,55,56,67,68,79,80,91,92,100,101,107,108,114,115,121,122,128,129,133,134,140,141,147,148,161,162,168,169,173,174,178,179,185,186,192,193,199,200,213,214,220,221,227,228,239,240,246,247,249,250,267,268,274,275,288,289,295,296,300,301,321,322,331,332,342,343,356,357,359,360,372,378,379,385,386,392,393,420,421,434,435,441,442,448,449,474,475,481,482,486,487,491,492,498,499,505,506,512,513,515,516,526,527,533,534,540,541,545,546,550,551,557,558,564,565,569,570,574,575,579,580]
namespace Q41
noncomputable def rf (P:PySem.Params)(x:PySem.Str)(a b c:Nat):List PySem.Obj:=
{ cls:=.type "tuple",data:=.seq #[.ref 31] } ::
{ cls:=.type "builtin_function_or_method",data:=.fields #[.builtin "type.__prepare__",.type "type"] } ::
{ cls:=.type "dict",data:=.dict #[e P "__module__" (221+a) (.str "namewants.errors" 194),e P "__qualname__" (223+a) (.str x (222+a)),e P "__firstlineno__" (225+a) (.int (7+b) (224+a)),e P "__static_attributes__" (226+a) (.ref (42+c))] 4 } ::
{ cls:=.type "tuple",data:=.seq #[] } ::
{ cls:=.none,data:=.fields #[] } ::
{ cls:=.type "code",data:=.fields #[.str x (216+a),.str x (217+a),.str "/claim/cut.py" (218+a),.int (7+b) 0,.int 0 0,.int 0 0,.int 0 0,.int 0 0,.ref (38+c),.bool false,.int 181 0,.ref (39+c),.none,.none,.none,.none,.int (219+a) 0,.int (7+b) 0,.str "/claim/cut.py" (220+a)] } ::
{ cls:=.type "frame",slots:=#[some (.ref (40+c)),some (.ref 3),some (.ref (37+c)),none,some (.str "namewants.errors" 194),none,some (.ref 0)] } ::
{ cls:=.type "tuple",data:=.seq #[] } ::
{ cls:=.type "dict",data:=.dict #[e P "__module__" (221+a) (.str "namewants.errors" 194),e P "__firstlineno__" (225+a) (.int (7+b) (224+a)),e P "__static_attributes__" (226+a) (.ref (42+c)),e P "__doc__" (227+a) (.none)] 2 } ::
{ cls:=.type "type",data:=.cls { name:=x,bases:=[.ref 31],mro:=[.ref (44+c),.ref 31,.type "ValueError",.type "Exception",.type "BaseException",.type "object"],ns:=(43+c),qualname:=x },slots:=#[some (.ref (35+c)),none,some (.str x (214+a)),some (.str x (222+a)),some (.builtin "ValueError.__new__"),some (.bool true)] } ::
{ cls:=.type "super",data:=.fields #[.ref (44+c),.ref (44+c),.ref (44+c)] } ::
{ cls:=.type "builtin_function_or_method",data:=.fields #[.builtin "object.__init_subclass__",.ref (44+c)] }::[]
noncomputable def OY:PySem.Params->List PySem.Obj:=λP=>
(PySem.W.boot_o_0 P ::
PySem.W.boot_o_1 P ::
PySem.W.boot_o_2 P ::
{ cls:=.type "dict",data:=.dict #[e P "__name__" 165 (.str "namewants.keeps" 423),e P "__doc__" 166 (.none),e P "__package__" 167 (.none),e P "__loader__" 168 (.builtin "__main__.__loader__#opaque"),e P "__spec__" 169 (.none),e P "__annotations__" 170 (.ref 6),e P "__builtins__" 171 (.ref 4),e P "__file__" 173 (.str "/claim/cut.py" 172),e P "__cached__" 174 (.none),e P "_wall" 193 (.ref 21),e P "WantError" 213 (.ref 31),e P "BadName" 229 (.ref 44),e P "BadSides" 245 (.ref 56),e P "BadNumber" 261 (.ref 68),e P "BadLetter" 277 (.ref 80),e P "NoWay" 293 (.ref 92),e P "VALUE_MOST" 297 (.int 999 296),e P "SIDE_MOST" 299 (.int 7 298),e P "LIFE_MOST" 301 (.int 99 300),e P "is_whole" 308 (.ref 101),e P "is_within" 317 (.ref 108),e P "is_value" 324 (.ref 115),e P "is_side" 331 (.ref 122),e P "is_tick" 338 (.ref 129),e P "is_sides" 344 (.ref 134),e P "need_within" 353 (.ref 141),e P "need_value" 360 (.ref 148),e P "need_life" 367 (.ref 155),e P "need_tick" 374 (.ref 162),e P "need_sides" 381 (.ref 169),e P "SIGNS" 385 (.str "abcdefghijklmnopqrstuvwxyz0123456789" 384),e P "PART_LONGEST" 387 (.int 4 386),e P "NAME_LONGEST" 389 (.int 5 388),e P "is_part" 395 (.ref 174),e P "is_name" 401 (.ref 179),e P "is_beginning" 408 (.ref 186),e P "need_name" 415 (.ref 193),e P "need_beginning" 422 (.ref 200),e P "ROOM_MOST" 426 (.int 9 425)] 39 } ::
PySem.W.boot_o_4 P ::
PySem.W.boot_o_5 P ::
PySem.W.boot_o_6 P ::
PySem.W.boot_o_7 P ::
PySem.W.boot_o_8 P ::
PySem.W.boot_o_9 P ::
PySem.W.boot_o_10 P ::
tu #[] ::
nf #[.int 1 0,.int 0 0,.ref 20,.int 5 0,.int 0 0,.ref 27,.int 7 0,.int 0 0,.ref 40,.int 9 0,.int 0 0,.ref 52,.int 11 0,.int 0 0,.ref 64,.int 13 0,.int 0 0,.ref 76,.int 15 0,.int 0 0,.ref 88,.int 21 0,.int 0 0,.ref 100,.int 23 0,.int 0 0,.ref 107,.int 25 0,.int 0 0,.ref 114,.int 27 0,.int 0 0,.ref 121,.int 29 0,.int 0 0,.ref 128,.int 31 0,.int 0 0,.ref 133,.int 37 0,.int 0 0,.ref 140,.int 40 0,.int 0 0,.ref 147,.int 42 0,.int 0 0,.ref 154,.int 44 0,.int 0 0,.ref 161,.int 47 0,.int 0 0,.ref 168,.int 54 0,.int 0 0,.ref 173,.int 58 0,.int 0 0,.ref 178,.int 62 0,.int 0 0,.ref 185,.int 64 0,.int 0 0,.ref 192,.int 67 0,.int 0 0,.ref 199] ::
ck "<module>" 182 1 11 ::
fr #[some (.ref 13),some (.ref 3),some (.ref 3),none,some (.str "__main__" 164),none,some (.ref 0)] ::
tu #[] ::
nf #[] ::
tu #[.str "k" 190] ::
tu #[] ::
fc "_wall" "_wall" (top 0) ::
co "_wall" "_wall" 187 1 1 15 191 ::
fo (top 0) "_wall" "_wall" "__main__" 164 20 ::
tu #[.type "ValueError"] ::
{ cls:=.type "builtin_function_or_method",data:=.fields #[.builtin "type.__prepare__",.type "type"] } ::
{ cls:=.type "dict",data:=.dict #[e P "__module__" 203 (.str "namewants.errors" 194),e P "__qualname__" 205 (.str "WantError" 204),e P "__firstlineno__" 207 (.int 5 206),e P "__static_attributes__" 208 (.ref 29)] 4 } ::
tu #[] ::
nf #[] ::
ck "WantError" 198 5 25 ::
fr #[some (.ref 27),some (.ref 3),some (.ref 24),none,some (.str "namewants.errors" 194),none,some (.ref 0)] ::
tu #[] ::
{ cls:=.type "dict",data:=.dict #[e P "__module__" 203 (.str "namewants.errors" 194),e P "__firstlineno__" 207 (.int 5 206),e P "__static_attributes__" 208 (.ref 29),e P "__weakref__" 210 (.ref 32),e P "__doc__" 211 (.none)] 3 } ::
{ cls:=.type "type",data:=.cls { name:="WantError",bases:=[.type "ValueError"],mro:=[.ref 31,.type "ValueError",.type "Exception",.type "BaseException",.type "object"],ns:=30,qualname:="WantError",subclasses:=[.ref 44,.ref 56,.ref 68,.ref 80,.ref 92] },slots:=#[some (.ref 22),none,some (.str "WantError" 196),some (.str "WantError" 204),some (.builtin "ValueError.__new__"),some (.bool true)] } ::
gs #[.str "__weakref__" 209,.ref 31,.builtin "ExceptionGroup.__weakref__",.none] ::
{ cls:=.type "super",data:=.fields #[.ref 31,.ref 31,.ref 31] } ::
{ cls:=.type "builtin_function_or_method",data:=.fields #[.builtin "object.__init_subclass__",.ref 31] }::[]) ++
rf P "BadName" 0 0 0 ++
rf P "BadSides" 16 2 12 ++
rf P "BadNumber" 32 4 24 ++
rf P "BadLetter" 48 6 36 ++
rf P "NoWay" 64 8 48 ++
(tu #[] ::
nf #[] ::
tu #[.str "thing" 305] ::
tu #[] ::
fc "is_whole" "is_whole" (top 12) ::
co "is_whole" "is_whole" 302 21 1 95 306 ::
fo (top 12) "is_whole" "is_whole" "namewants.checks" 294 100 ::
tu #[] ::
nf #[] ::
tu #[.str "thing" 312,.str "least" 313,.str "most" 314] ::
tu #[] ::
fc "is_within" "is_within" (top 13) ::
co "is_within" "is_within" 309 23 3 102 315 ::
fo (top 13) "is_within" "is_within" "namewants.checks" 294 107 ::
tu #[] ::
nf #[] ::
tu #[.str "thing" 321] ::
tu #[] ::
fc "is_value" "is_value" (top 14) ::
co "is_value" "is_value" 318 25 1 109 322 ::
fo (top 14) "is_value" "is_value" "namewants.checks" 294 114 ::
tu #[] ::
nf #[] ::
tu #[.str "thing" 328] ::
tu #[] ::
fc "is_side" "is_side" (top 15) ::
co "is_side" "is_side" 325 27 1 116 329 ::
fo (top 15) "is_side" "is_side" "namewants.checks" 294 121 ::
tu #[] ::
nf #[] ::
tu #[.str "thing" 335] ::
tu #[] ::
fc "is_tick" "is_tick" (top 16) ::
co "is_tick" "is_tick" 332 29 1 123 336 ::
fo (top 16) "is_tick" "is_tick" "namewants.checks" 294 128 ::
tu #[] ::
nf #[] ::
fc "is_sides" "is_sides" (top 17) ::
cp "is_sides" "is_sides" 339 31 1 130 ::
fo (top 17) "is_sides" "is_sides" "namewants.checks" 294 133 ::
tu #[] ::
nf #[] ::
tu #[.str "thing" 348,.str "least" 349,.str "most" 350] ::
tu #[] ::
fc "need_within" "need_within" (top 18) ::
co "need_within" "need_within" 345 37 3 135 351 ::
fo (top 18) "need_within" "need_within" "namewants.checks" 294 140 ::
tu #[] ::
nf #[] ::
tu #[.str "thing" 357] ::
tu #[] ::
fc "need_value" "need_value" (top 19) ::
co "need_value" "need_value" 354 40 1 142 358 ::
fo (top 19) "need_value" "need_value" "namewants.checks" 294 147 ::
tu #[] ::
nf #[] ::
tu #[.str "thing" 364] ::
tu #[] ::
fc "need_life" "need_life" (top 20) ::
co "need_life" "need_life" 361 42 1 149 365 ::
fo (top 20) "need_life" "need_life" "namewants.checks" 294 154 ::
tu #[] ::
nf #[] ::
tu #[.str "thing" 371] ::
tu #[] ::
fc "need_tick" "need_tick" (top 21) ::
co "need_tick" "need_tick" 368 44 1 156 372 ::
fo (top 21) "need_tick" "need_tick" "namewants.checks" 294 161 ::
tu #[] ::
nf #[] ::
tu #[.str "thing" 378] ::
tu #[] ::
fc "need_sides" "need_sides" (top 22) ::
co "need_sides" "need_sides" 375 47 1 163 379 ::
fo (top 22) "need_sides" "need_sides" "namewants.checks" 294 168 ::
tu #[] ::
nf #[] ::
fc "is_part" "is_part" (top 27) ::
cp "is_part" "is_part" 390 54 1 170 ::
fo (top 27) "is_part" "is_part" "namewants.names" 382 173 ::
tu #[] ::
nf #[] ::
fc "is_name" "is_name" (top 28) ::
cp "is_name" "is_name" 396 58 1 175 ::
fo (top 28) "is_name" "is_name" "namewants.names" 382 178 ::
tu #[] ::
nf #[] ::
tu #[.str "thing" 405] ::
tu #[] ::
fc "is_beginning" "is_beginning" (top 29) ::
co "is_beginning" "is_beginning" 402 62 1 180 406 ::
fo (top 29) "is_beginning" "is_beginning" "namewants.names" 382 185 ::
tu #[] ::
nf #[] ::
tu #[.str "thing" 412] ::
tu #[] ::
fc "need_name" "need_name" (top 30) ::
co "need_name" "need_name" 409 64 1 187 413 ::
fo (top 30) "need_name" "need_name" "namewants.names" 382 192 ::
tu #[] ::
nf #[] ::
tu #[.str "thing" 419] ::
tu #[] ::
fc "need_beginning" "need_beginning" (top 31) ::
co "need_beginning" "need_beginning" 416 67 1 194 420 ::
fo (top 31) "need_beginning" "need_beginning" "namewants.names" 382 199::[])
end Q41
noncomputable def Q41.mid (P:PySem.Params)(os:PySem.OsState):PySem.W.SharedT:=⟨TreeRun.AF 0 .nil (Q41.OY P),nat_lit 201,{},#[],{},nat_lit 427,os⟩
noncomputable abbrev Q41.env:PySem.Env:={ scope:=(PySem.Challenge.pw_namewants_k41_whole_joined_asks).main.scope,locals:=PySem.mainNs,globals:=PySem.mainNs,cells:=[],code:=.ref 13,frame:=some 14 }
noncomputable abbrev Q41.bd:List PySem.Stmt:=(PySem.Challenge.pw_namewants_k41_whole_joined_asks).main.body
noncomputable abbrev Q41.hk:PySem.W.Hook:=PySem.W.kmHook Q41.Kf Q41.Hk (λ_=>by kernel_rfl) []
noncomputable abbrev Q41.lk:PySem.Shared->Bool:=λs=>PySem.W.xlAt Q41.vw [] s&&PySem.W.recOk (PySem.W.RowW.records (PySem.W.OpenRow.toRowW (PySem.W.OpenLaw.row PySem.Challenge.rw_namewants_k41_whole_joined_asks))) s
end
namespace Q41
open PySem PySem.W PyProof.Rows PySem.Calls TreeRun
theorem Pa (w:World)(os:OsState):goN treeTable PySem.Challenge.pw_namewants_k41_whole_joined_asks w (m0 w) (tR w) 12 (sT w.params os) (topStub PySem.Challenge.pw_namewants_k41_whole_joined_asks)=some (ahead PySem.Challenge.pw_namewants_k41_whole_joined_asks 12 w os,⟨denote treeTable (.body bd env),.body bd env,⟨0,0,0,0⟩,[topFrame ⟨0,0,0,0⟩]⟩):=by kernel_rfl
theorem Pc (w:World)(os:OsState):segRunT treeTable PySem.Challenge.pw_namewants_k41_whole_joined_asks w (m0 w) (tR w) 1 1 (ahead PySem.Challenge.pw_namewants_k41_whole_joined_asks 12 w os) (blockOf bd env (.body bd env) ⟨0,0,0,0⟩ [topFrame ⟨0,0,0,0⟩])=some (.next,ahead PySem.Challenge.pw_namewants_k41_whole_joined_asks 12 w os,.body bd env,⟨0,0,0,0⟩):=by kernel_rfl
theorem OZ (w:World)(os:OsState):segRunT treeTable PySem.Challenge.pw_namewants_k41_whole_joined_asks w (m0 w) (tR w) 1 5000 (ahead PySem.Challenge.pw_namewants_k41_whole_joined_asks 12 w os) (piecesOf (bd.take 34) env (.body bd env) ⟨0,0,0,0⟩ [topFrame ⟨0,0,0,0⟩])=some (.next,mid w.params os,.body bd env,⟨71,0,71,9⟩):=by kernel_rfl
theorem JL (w:World)(os:OsState):(later PySem.Challenge.pw_namewants_k41_whole_joined_asks mid env bd (bd.drop 34) ⟨71,0,71,9⟩ ⟨0,0,0,0⟩ 6000 w os).map (fit PySem.Challenge.pw_namewants_k41_whole_joined_asks w.params)=some true:=by kernel_rfl
theorem ER (w:World)(os:OsState):(later PySem.Challenge.pw_namewants_k41_whole_joined_asks mid env bd (bd.drop 34) ⟨71,0,71,9⟩ ⟨0,0,0,0⟩ 6000 w os).map (λs=>openSeen vw ["House"] (importedModules (PySem.Challenge.pw_namewants_k41_whole_joined_asks).main.body) lk true s.abs)=some (openGood vw ["House"]):=by kernel_rfl
theorem JW (w:World)(os:OsState):(later PySem.Challenge.pw_namewants_k41_whole_joined_asks mid env bd (bd.drop 34) ⟨71,0,71,9⟩ ⟨0,0,0,0⟩ 6000 w os).map (λs=>Hook.obs hk s.abs)=some (Hook.val hk w):=by kernel_rfl
end Q41
namespace L2
open PySem PySem.Spec PyProof.Rows
abbrev Key:=Sum Int Str
def oO:Key->Value->Bool
 | .inl k,v=>Value.isInt k v
 | .inr x,v=>Value.isStrOf x v
def Pz (w:World):Key->Int
 | .inl k=>hashInt k
 | .inr x=>hashStr w x
theorem cW:∀{k:Key} {v:Value},oO k v=true->(∃i t,k=Sum.inl i/\v=Value.int i t)\/(∃x t,k=Sum.inr x/\v=Value.str x t)
 | .inl i,v,h=>by obtain⟨t,e⟩:=Value.isInt_shape (k:=i) (v:=v) h;exact .inl ⟨i,t,rfl,e⟩
 | .inr x,v,h=>by obtain⟨t,e⟩:=Value.isStrOf_shape (x:=x) (v:=v) h;exact .inr ⟨x,t,rfl,e⟩
theorem Cd (i:Int)(t:Tok):oO (.inl i) (.int i t)=true:=by simp[oO,Value.isInt]
theorem Co (x:Str)(t:Tok):oO (.inr x) (.str x t)=true:=by simp[oO,Value.isStrOf]
theorem Mo (a b:Int):decide ((Sum.inl a:Key)=Sum.inl b)=(a==b):=by
 by_cases e:a=b
 .subst e;simp
 .have h:¬(Sum.inl a:Key)=Sum.inl b:=λq=>e (Sum.inl.inj q);rw[decide_eq_false h];exact(beq_eq_false_iff_ne.mpr e).symm
theorem MI (a b:Str):decide ((Sum.inr a:Key)=Sum.inr b)=decide (a=b):=by
 by_cases e:a=b
 .subst e;simp
 .have h:¬(Sum.inr a:Key)=Sum.inr b:=λq=>e (Sum.inr.inj q);rw[decide_eq_false h,decide_eq_false e]
theorem L8 (a:Int)(b:Str):decide ((Sum.inl a:Key)=Sum.inr b)=false:=decide_eq_false (λq=>nomatch q)
theorem KD (a:Str)(b:Int):decide ((Sum.inr a:Key)=Sum.inl b)=false:=decide_eq_false (λq=>nomatch q)
def aV (prog:Program)(w:World):PySem.KeyKind prog w Key where
 is:=oO
 hash:=Pz w
 inj:=λv a b ha hb=>by
  rcases cW ha with⟨i,t,rfl,rfl⟩|⟨x,t,rfl,rfl⟩
  .rcases cW hb with⟨j,u,rfl,e⟩|⟨y,u,rfl,e⟩
   .injection e with e1 _;rw[e1]
   .exact nomatch e
  .rcases cW hb with⟨j,u,rfl,e⟩|⟨y,u,rfl,e⟩
   .exact nomatch e
   .injection e with e1 _;rw[e1]
 byValue:=λk v h=>by rcases cW h with⟨i,t,rfl,rfl⟩|⟨x,t,rfl,rfl⟩<;>rfl
 pyHash:=λhv h=>by
  rcases cW hv with⟨i,t,rfl,rfl⟩|⟨x,t,rfl,rfl⟩
  .exact wpAny_pyHash_int h
  .exact wpAny_pyHash_str h
 eqBool:=λhu hv h=>by
  rcases cW hu with⟨i,t,rfl,rfl⟩|⟨x,t,rfl,rfl⟩
  .rcases cW hv with⟨j,u,rfl,rfl⟩|⟨y,u,rfl,rfl⟩
   .rw[Mo] at h;exact wpAny_eqBool_int h
   .rw[L8] at h;exact SeqAt.EqAt.int_str i t y u _ _ _ _ h
  .rcases cW hv with⟨j,u,rfl,rfl⟩|⟨y,u,rfl,rfl⟩
   .rw[KD] at h;exact SeqAt.EqAt.str_int x t j u _ _ _ _ h
   .rw[MI] at h;exact wpAny_eqBool_str h
 «strs»:=λk x t v h=>by
  rcases cW h with⟨i,u,rfl,e⟩|⟨y,u,rfl,e⟩
  .exact nomatch e
  .injection e with e1 _;subst e1;cases v<;>rfl
theorem yA (prog:Program)(w:World)(i:Int)(t:Tok):(aV prog w).is (.inl i) (.int i t)=true:=Cd i t
theorem yy (prog:Program)(w:World)(x:Str)(t:Tok):(aV prog w).is (.inr x) (.str x t)=true:=Co x t
inductive V where
 | aj | bl (b:Bool) | int (i:Int) | str (x:Str) | p9 (b:Array UInt8) | sH (b:UInt64) | ref (a:Addr) | ty (n:String)
 deriving DecidableEq
def RelV:V->Value->Prop
 | .aj,u=>u=Value.none
 | .bl b,u=>u=Value.bool b
 | .int i,u=>∃t,u=Value.int i t
 | .str x,u=>∃t,u=Value.str x t
 | .p9 b,u=>∃t,u=Value.bytes b t
 | .sH b,u=>∃t,u=Value.float b t
 | .ref a,u=>u=Value.ref a
 | .ty n,u=>u=Value.type n
abbrev Vals:List V->List Value->Prop:=Paired RelV
theorem Vals.length {xs:List V}{us:List Value}(r:Vals xs us):xs.length=us.length:=Paired.length r
theorem Vals.get:∀{xs:List V} {us:List Value} {i:Nat} {x:V},Vals xs us->xs[i]?=some x->∃u,us[i]?=some u/\RelV x u
 | _,_,_,_,.nil,e=>by simp at e
 | _,_,0,_,.cons r _,e=>by simp at e;subst e;exact⟨_,rfl,r⟩
 | _,_,i+1,x,.cons _ t,e=>by obtain⟨u,h1,h2⟩:=Vals.get (i:=i) (x:=x) t (by simpa using e);exact⟨u,by simpa using h1,h2⟩
theorem Vals.set {x:V}{u:Value}(r:RelV x u):∀{xs:List V} {us:List Value} (i:Nat),Vals xs us->Vals (xs.set i x) (us.set i u)
 | _,_,_,.nil=>.nil
 | _,_,0,.cons _ t=>.cons r t
 | _,_,i+1,.cons q t=>.cons q (Vals.set r i t)
theorem Vals.append:∀{xs ys:List V} {us ws:List Value},Vals xs us->Vals ys ws->Vals (xs++ys) (us++ws)
 | _,_,_,_,.nil,s=>s
 | _,_,_,_,.cons r t,s=>.cons r (Vals.append t s)
theorem Vals.take:∀{xs:List V} {us:List Value} (n:Nat),Vals xs us->Vals (xs.take n) (us.take n)
 | _,_,0,_=>.nil
 | _,_,_+1,.nil=>.nil
 | _,_,n+1,.cons r t=>.cons r (Vals.take n t)
theorem Vals.drop:∀{xs:List V} {us:List Value} (n:Nat),Vals xs us->Vals (xs.drop n) (us.drop n)
 | _,_,0,r=>r
 | _,_,_+1,.nil=>.nil
 | _,_,n+1,.cons _ t=>Vals.drop n t
def fK:Option V->Option Value->Prop
 | some v,some u=>RelV v u
 | none,none=>True
 | _,_=>False
def KV {κ:Type}:List (κ×V)->List (κ×Value)->Prop:=Paired λ(p:κ×V) (q:κ×Value)=>p.1=q.1/\RelV p.2 q.2
def kV:Key->V
 | .inl i=>.int i
 | .inr x=>.str x
inductive HO where
 | lst (xs:List V)
 | tup (xs:List V)
 | dK (af:List (Key×V)) | dT (af:List (List Key×V))
 | set (S:Int->Bool) (n:Nat)
 | ins (C dx:Addr) (fs:List (Str×V))
 | own (x:Addr)
 | xd (fs:List (Str×V))
 | met (f x:Addr)
 | rng (lo hi:Int)
 | bR (o:Obj) (u:HO)
 | gq (ps:Array Value)
 | ext (φ:Heap->Prop)
abbrev Hp:=Addr->Option HO
def upd (H:Hp)(a:Addr)(o:HO):Hp:=λb=>if b=a then some o else H b
theorem aA {H:Hp}{a:Addr}{o:HO}:upd H a o a=some o:=by unfold upd;rw[if_pos rfl]
theorem ax {H:Hp}{a b:Addr}{o:HO}(h:b≠a):upd H a o b=H b:=by unfold upd;rw[if_neg h]
theorem ib {H:Hp}{a b:Addr}{o u:HO}(h:H a=some o)(h':H b=some u)(d:o≠u):a≠b:=by intro e;subst e;rw[h] at h';exact d (Option.some.inj h')
theorem bF {H:Hp}{a b:Addr}{o:HO}(h:H a=some o)(h':H b=none):a≠b:=by intro e;subst e;rw[h] at h';cases h'
section
variable (P:Program)(w:World)
def aX (H:Hp)(h:Heap)(a:Addr):HO->Prop
 | .lst xs=>xs.length<=sizeLine/\∃(ai:List Value) (n:Nat),Vals xs ai/\h.get? a=some { cls:=.type "list",data:=.seq ai.toArray n }
 | .tup xs=>xs.length<=sizeLine/\∃ai:List Value,Vals xs ai/\IsTup h a ai.toArray
 | .dK af=>af.length<=sizeLine/\(a==sysModules)=false/\∃vs,KV af vs/\h.DictOf (aV P w) a vs
 | .dT af=>af.length<=sizeLine/\(a==sysModules)=false/\∃xs:List (List Key×Addr×Value),
  Paired (λ(p:List Key×V) (q:List Key×Addr×Value)=>p.1=q.1/\H q.2.1=some (.tup (p.1.map kV))/\RelV p.2 q.2.2) af xs /\
  ∃o es ep,h.get? a=some o/\o.ExactDict/\o.data = .dict es ep/\es.toList=xs.map (entryOfKey (tupleKind (aV P w)))/\(xs.map (·.1)).Nodup
 | .set S n=>h.SetOf (intKind P w) a S n
 | .ins C dx fs=>H dx=some (.own a)/\fs.length<=1000/\dx≠a/\h.get? a=some (W.instObj C dx) /\
  ∃mA,h.Ns1 dx mA/\(∀f,fK (fs.lookup f) (mA f))/\PySem.Within mA (fs.map (·.1))
 | .own _=>∃o,h.get? a=some o
 | .xd fs=>∃mA,h.Ns1 a mA/\∀f,fK (fs.lookup f) (mA f)
 | .rng lo hi=>∃t u v,h.get? a=some { cls:=.type "range",data:=.fields #[.int lo t,.int hi u,.int 1 v] }
 | .bR o u=>h.get? a=some o/\aX H h a u
 | .gq ps=>h.get? a=some { cls:=.none,data:=.fields ps }
 | .met f x=>h.get? a=some (W.methodObj (.ref f) (.ref x))
 | .ext φ=>φ h/\(∃o,h.get? a=some o)/\∀h1 h2:Heap,φ h1->(∀o,h1.get? a=some o->h2.get? a=some o)->φ h2
def aT (H:Hp)(h:Heap):Prop:=∀a o,H a=some o->aX P w H h a o
end
section
variable {P:Program}{w:World}{H H':Hp}{h h':Heap}{a:Addr}{o:HO}
theorem aX.lt (x:aX P w H h a o):a<h.objs.size:=by
 cases o with
 | lst xs=>obtain⟨_,_,_,_,e⟩:=x;exact Heap.lt_size e
 | tup xs=>obtain⟨_,_,_,p⟩:=x;exact p.lt
 | dK af=>obtain⟨_,_,_,_,o,_,_,e,_⟩:=x;exact Heap.lt_size e
 | dT af=>obtain⟨_,_,_,_,o,_,_,e,_⟩:=x;exact Heap.lt_size e
 | set S n=>obtain⟨o,_,_,_,e,_⟩:=x;exact Heap.lt_size e
 | ins C dx fs=>obtain⟨_,_,_,e,_⟩:=x;exact Heap.lt_size e
 | own y=>obtain⟨_,e⟩:=x;exact Heap.lt_size e
 | xd fs=>obtain⟨_,⟨_,_,_,e,_⟩,_⟩:=x;exact Heap.lt_size e
 | rng lo hi=>obtain⟨_,_,_,e⟩:=x;exact Heap.lt_size e
 | bR ob u=>obtain⟨e,_⟩:=x;exact Heap.lt_size e
 | gq ps=>exact Heap.lt_size (show h.get? a=some _ from x)
 | met f y=>exact Heap.lt_size (show h.get? a=some _ from x)
 | ext φ=>obtain⟨_,⟨_,e⟩,_⟩:=x;exact Heap.lt_size e
theorem Paired.nN {α β:Type}{F G:α->β->Prop}:∀{l₁:List α} {l₂:List β},Paired F l₁ l₂->(∀a b,F a b->G a b)->Paired G l₁ l₂
 | _,_,.nil,_=>.nil
 | _,_,.cons r t,f=>.cons (f _ _ r) (Paired.nN t f)
theorem aX.ij (x:aX P w H h a o)(k:∀b u,(b=a\/H b=some (.own a))->h.get? b=some u->h'.get? b=some u)
 (ho:∀b,H b=some (.own a)->H' b=some (.own a)) (ht:∀b xs,H b=some (.tup xs)->H' b=some (.tup xs)):aX P w H' h' a o:=by
 induction o with
 | lst xs=>obtain⟨z,ai,n,r,e⟩:=x;exact⟨z,ai,n,r,k _ _ (.inl rfl) e⟩
 | tup xs=>obtain⟨z,ai,r,ob,e,c⟩:=x;exact⟨z,ai,r,ob,k _ _ (.inl rfl) e,c⟩
 | dK af=>obtain⟨z,y,vs,r,ob,es,ep,e,c⟩:=x;exact⟨z,y,vs,r,ob,es,ep,k _ _ (.inl rfl) e,c⟩
 | dT af=>obtain⟨z,y,xs,r,ob,es,ep,e,c⟩:=x;exact⟨z,y,xs,Paired.nN r λp q z=>⟨z.1,ht _ _ z.2.1,z.2.2⟩,ob,es,ep,k _ _ (.inl rfl) e,c⟩
 | set S n=>obtain⟨ob,es,ep,t,e,c⟩:=x;exact⟨ob,es,ep,t,k _ _ (.inl rfl) e,c⟩
 | ins C dx fs=>obtain⟨d,z,ne,e,mA,⟨od,es,ep,e2,c⟩,r⟩:=x;exact⟨ho _ d,z,ne,k _ _ (.inl rfl) e,mA,⟨od,es,ep,k _ _ (.inr d) e2,c⟩,r⟩
 | own y=>obtain⟨ob,e⟩:=x;exact⟨ob,k _ _ (.inl rfl) e⟩
 | xd fs=>obtain⟨mA,⟨od,es,ep,e,c⟩,r⟩:=x;exact⟨mA,⟨od,es,ep,k _ _ (.inl rfl) e,c⟩,r⟩
 | rng lo hi=>obtain⟨t,u,v,e⟩:=x;exact⟨t,u,v,k _ _ (.inl rfl) e⟩
 | bR ob u ih=>obtain⟨e,q⟩:=x;exact⟨k _ _ (.inl rfl) e,ih q⟩
 | gq ps=>have e:h.get? a=some { cls:=.none,data:=.fields ps }:=x;show h'.get? a=some { cls:=.none,data:=.fields ps };exact k a _ (.inl rfl) e
 | met f y=>have e:h.get? a=some (W.methodObj (.ref f) (.ref y)):=x;show h'.get? a=some (W.methodObj (.ref f) (.ref y));exact k a _ (.inl rfl) e
 | ext φ=>obtain⟨p,⟨o,e⟩,st⟩:=x;exact⟨st _ _ p λo q=>k _ _ (.inl rfl) q,⟨o,k _ _ (.inl rfl) e⟩,st⟩
theorem aT.lt (x:aT P w H h)(e:H a=some o):a<h.objs.size:=(x a o e).lt
theorem aT.fresh (x:aT P w H h)(e:h.objs.size<=a):H a=none:=by
 cases q:H a with
 | none=>rfl
 | some u=>exact absurd (Nat.lt_of_lt_of_le (x.lt q) e) (Nat.lt_irrefl _)
theorem aT.kept (x:aT P w H h)(k:∀b u,h.get? b=some u->h'.get? b=some u):aT P w H h':=λa o e=>
 (x a o e).ij (λb u _ q=>k b u q) (λ_ q=>q) λ_ _ q=>q
theorem aT.laid (x:aT P w H h)(k:∀b u,h.get? b=some u->h'.get? b=some u)(hp:h.objs.size<=a)(new:aX P w (upd H a o) h' a o):aT P w (upd H a o) h':=λb u e=>by
 have hn:=x.fresh hp
 by_cases hb:b=a
 .subst hb;rw[aA] at e;cases e;exact new
 .rw[ax hb] at e;exact(x b u e).ij (λc v _ q=>k c v q) (λc q=>by rw[ax (bF q hn)];exact q) λc xs q=>by rw[ax (bF q hn)];exact q
end
def Rd (H:Hp)(a:Addr)(u:HO):Prop:=H a=some u\/∃o,H a=some (.bR o u)
theorem Rd.ok {P:Program}{w:World}{H:Hp}{h:Heap}{a:Addr}{u:HO}(r:Rd H a u)(x:aT P w H h):aX P w H h a u:=by
 rcases r with r | ⟨o,r⟩
 .exact x a u r
 .obtain⟨_,q⟩:=x a _ r;exact q
def yU:Option HO->Prop
 | some (.lst _)=>True
 | some (.dK _)=>True
 | some (.dT _)=>True
 | some (.set _ _)=>True
 | some (.ins _ _ _)=>True
 | some (.ext _)=>True
 | _=>False
section
variable {P:Program}{w:World}{H:Hp}{h h':Heap}{x e:Addr}{o':HO}
theorem aT.write (ok:aT P w H h)(mu:yU (H x))(he:e=x\/H e=some (.own x))(k:∀b u,b≠e->h.get? b=some u->h'.get? b=some u)(zW:∃u,h'.get? e=some u)
 (new:aX P w (upd H x o') h' x o'):aT P w (upd H x o') h':=λb u q=>by
 have Nd:∀c y,H c=some (.own y)->c≠x:=λc y r z=>by subst z;rw[r] at mu;exact mu
 have ntup:∀c xs,H c=some (.tup xs)->c≠x:=λc xs r z=>by subst z;rw[r] at mu;exact mu
 by_cases hb:b=x
 .subst hb;rw[aA] at q;cases q;exact new
 .rw[ax hb] at q
  by_cases xS:b=e
  .have q':H b=some (.own x):=by
    rcases he with z | z
    .exact absurd (xS.trans z) hb
    .rw[xS];exact z
   rw[q] at q';cases q';obtain⟨v,hv⟩:=zW;exact⟨v,by rw[xS];exact hv⟩
  .refine(ok b u q).ij (λc v hc r=>k c v ?_ r) (λc r=>by rw[ax (Nd c b r)];exact r) λc xs r=>by rw[ax (ntup c xs r)];exact r
   rcases hc with rfl | hc
   .exact xS
   .rintro rfl;rcases he with z | z
    .exact Nd c b hc z
    .rw[hc] at z;cases z;exact hb rfl
end
structure Un (fs ex:List Addr)(H H':Hp)(h h':Heap):Prop where
 keep:∀b o,h.get? b=some o->H b=none->b∉fs->b∉ex->h'.get? b=some o
 slot:∀b o,h.get? b=some o->H b=none->b∈fs->b∉ex->∃sl,h'.get? b=some { o with slots:=sl }
 free:∀b o,h.get? b=some o->H b=none->b∉ex->H' b=none
 there:∀b o,h.get? b=some o->b∉ex->∃o',h'.get? b=some o'
 dM:∀b xs,H b=some (.tup xs)->H' b=some (.tup xs)
 c6:∀b o u,H b=some (.bR o u)->H' b=some (.bR o u)
 jt:∀b ps,H b=some (.gq ps)->∃more,H' b=some (.gq (ps++more))
section
variable {fs fs' ex ex':List Addr}{H H1 H2:Hp}{h h1 h2 h':Heap}{a x e:Addr}{o:HO}
theorem Un.any (u:Un fs ex H H1 h h1){b:Addr}{ob:Obj}(q:h.get? b=some ob)(n:H b=none)(hx:b∉ex):∃sl,h1.get? b=some { ob with slots:=sl }:=by
 by_cases hb:b∈fs
 .exact u.slot b ob q n hb hx
 .exact⟨ob.slots,u.keep b ob q n hb hx⟩
theorem Un.kept (k:∀b u,h.get? b=some u->h'.get? b=some u):Un fs ex H H h h':=
 ⟨λb ob q _ _ _=>k b ob q,λb ob q _ _ _=>⟨ob.slots,k b ob q⟩,λ_ _ _ n _=>n,λb ob q _=>⟨ob,k b ob q⟩,λ_ _ q=>q,λ_ _ _ q=>q,λ_ ps q=>⟨#[],by rw[q];simp⟩⟩
theorem Un.refl:Un fs ex H H h h:=Un.kept λ_ _ q=>q
theorem Un.laid (k:∀b u,h.get? b=some u->h'.get? b=some u)(hp:h.objs.size<=a)(hn:H a=none):Un fs ex H (upd H a o) h h' where
 keep:=λb u q _ _ _=>k b u q
 slot:=λb u q _ _ _=>⟨u.slots,k b u q⟩
 free:=λb u q n _=>by rw[ax (Nat.ne_of_lt (Nat.lt_of_lt_of_le (Heap.lt_size q) hp))];exact n
 there:=λb u q _=>⟨u,k b u q⟩
 dM:=λb xs q=>by rw[ax (bF q hn)];exact q
 c6:=λb u xs q=>by rw[ax (bF q hn)];exact q
 jt:=λb ps q=>⟨#[],by rw[ax (bF q hn),q];simp⟩
theorem Un.write (mu:yU (H x))(he:e=x\/H e=some (.own x))(k:∀b u,b≠e->h.get? b=some u->h'.get? b=some u)(zW:∃u,h'.get? e=some u):Un fs ex H (upd H x o) h h':=by
 have hx:∀b,H b=none->b≠x:=λb n z=>by subst z;rw[n] at mu;exact mu
 have hb:∀b,H b=none->b≠e:=λb n z=>by
  subst z;rcases he with r | r
  .exact hx b n r
  .rw[n] at r;cases r
 have hm:∀b u,H b=some u->¬yU (some u)->b≠x:=λb u q nm z=>by subst z;rw[q] at mu;exact nm mu
 refine⟨λb u q n _ _=>k b u (hb b n) q,λb u q n _ _=>⟨u.slots,k b u (hb b n) q⟩,λb u q n _=>by rw[ax (hx b n)];exact n,λb u q _=>?_,
  λb xs q=>by rw[ax (hm b _ q λz=>z)];exact q,λb u xs q=>by rw[ax (hm b _ q λz=>z)];exact q,λb ps q=>⟨#[],by rw[ax (hm b _ q λz=>z),q];simp⟩⟩
 by_cases xS:b=e
 .subst xS;exact zW
 .exact⟨u,k b u xS q⟩
end
def G2 (h:Heap)(H:Hp):List Addr:=(List.range h.objs.size).filter λa=>(H a).isSome
def kX (h:Heap)(H:Hp):Heap:=W.hideAll h (G2 h H)
theorem Df (h:Heap)(H:Hp):(kX h H).objs.size=h.objs.size:=W.hideAll_size _ _
theorem EH {h:Heap}{H:Hp}{b:Addr}{o:Obj}(e:h.get? b=some o)(n:H b=none):(kX h H).get? b=some o:=
 W.hideAll_get _ e λhm=>by have q:(H b).isSome=true:=(List.mem_filter.mp hm).2;rw[n] at q;simp at q
theorem HQ {h:Heap}{H:Hp}{b:Addr}{o:Obj}(e:(kX h H).get? b=some o):h.get? b=some o/\H b=none:=by
 have e':h.get? b=some o:=W.of_hideAll (G2 h H) e;refine⟨e',?_⟩;cases q:H b with
 | none=>rfl
 | some x=>have hm:b∈G2 h H:=List.mem_filter.mpr ⟨List.mem_range.mpr (Heap.lt_size e'),by simp[q]⟩;have z:(kX h H).get? b=none:=W.hideAll_none (G2 h H) hm;rw[z] at e;cases e
def Jg (g h:Heap)(L:Addr):List (Addr×Obj):=(List.range h.objs.size).filterMap λa=>if a=L\/(g.get? a).isSome=true then none else (h.get? a).map λo=>(a,o)
def rest (g h:Heap)(L d:Addr):List (Addr×Obj):=(Jg g h L).filter λp=>decide (p.1≠d)
structure Mod (K:Fg)(mg:Str->Option Value)(base:Heap):Prop where
 jm:K.In base
 glob:base.Ns mainGlobals mg
 blt:∃mb,base.Ns builtinsNs mb/\∀x:Str,x ≠ "__name__"->mb x=bootBuiltins x
 nolimit:base.NoLimit
structure Cx where
 prog:Program
 w:World
 K:Fg
 mg:Str->Option Value
 base:Heap
 A:Around
 N:List Str
 s₀:Sh
 H₀:Hp
 env:Env
 outer:List Env
 stack:List Env
 ex:List Addr
 fn:Str->Bool
 calm:Bool
 pn:List (Addr×Obj)
 xe:Value->Sh->Prop
def lO (l:List Env):List Addr:=l.filterMap (·.frame)
abbrev Cx.fs (X:Cx):List Addr:=lO X.outer
def xk (sc:Scope)(x:Str):Prop:=sc.names.lookup x=some .local\/sc.names.lookup x=some .cell\/sc.names.lookup x=some .free
def Loc (sc:Scope)(x:Str):Prop:=sc.names.lookup x=some .local\/sc.names.lookup x=some .cell
def Look (env:Env)(h:Heap)(m:Str->Option Value)(x:Str)(u:Value):Prop:=
 (env.kindOf x=some .local/\m x=some u)\/((env.kindOf x=some .cell\/env.kindOf x=some .free)/\∃c,env.cells.lookup x=some c/\h.IsCell c (some u))
structure Cx.Ok (X:Cx):Prop where
 mod:Mod X.K X.mg X.base
 kind:X.env.scope.kind = .function
 glob:X.env.globals=mainGlobals
 blt:X.env.builtins=builtinsNs
 above:X.s₀.heap.objs.size<=X.env.locals
 inj:∀x y c,X.env.cells.lookup x=some c->X.env.cells.lookup y=some c->x=y
 has:∀x,(X.env.kindOf x=some .cell\/X.env.kindOf x=some .free)->∃c,X.env.cells.lookup x=some c
 zX:∀x c,X.fn x=true->X.env.cells.lookup x=some c->X.s₀.heap.objs.size<=c
 hd:X.calm=true->X.A.handled=none
 frames:X.A.frames=some X.stack
 DL:X.stack=X.outer\/(X.stack=X.env::X.outer/\X.env.frame=some X.env.locals)
 exf:∀b∈X.ex,b≠X.env.locals/\∀x c,X.env.cells.lookup x=some c->c≠b
 bs:∀b o,X.base.get? b=some o->X.s₀.heap.get? b=some o/\X.H₀ b=none
 qb:X.base.objs.size<=X.s₀.heap.objs.size
 tM:∀b o,X.base.get? b=some o->b∉X.ex
 xT:∀b∈X.ex,b∉X.fs
 eg:X.s₀.heap.FunFrames X.base X.outer
 uS:∀b∈X.fs,X.H₀ b=none
structure Inv (X:Cx)(pins:List (Addr×Obj))(σ:List (Option V))(H:Hp)(s:Sh):Prop where
 ok:X.Ok
 os:s.os=X.s₀.os
 bare:AllBare s.gens
 base:Un X.fs X.ex X.H₀ H X.s₀.heap s.heap
 loc:∃m,s.heap.Ns X.env.locals m/\∀(i:Nat) (x:Str) (v:V),X.N[i]?=some x->σ[i]?=some (some v)->xk X.env.scope x->∃u,RelV v u/\Look X.env s.heap m x u
 cell:∀x c,X.env.cells.lookup x=some c->∃v,s.heap.IsCell c v
 free:H X.env.locals=none
 eV:∀x c,X.env.cells.lookup x=some c->H c=none
 pin:∀p∈X.pn++pins,s.heap.get? p.1=some p.2/\H p.1=none/\p.1≠X.env.locals/\p.1∉X.fs/\∀v,p.2.data ≠ .cell v
 aq:aT X.prog X.w H s.heap
 len:σ.length=X.N.length
section
variable {X:Cx}{pins:List (Addr×Obj)}{σ:List (Option V)}{H H':Hp}{s:Sh}{h':Heap}
theorem Cx.Ok.OU (ok:X.Ok){b:Addr}{o:Obj}(e:X.base.get? b=some o):b∉X.fs:=λhb=>by have:=(ok.eg.mem hb).1;rw[e] at this;cases this
theorem Inv.bs (I:Inv X pins σ H s):∀b o,X.base.get? b=some o->s.heap.get? b=some o/\H b=none:=λb o e=>
 ⟨I.base.keep b o (I.ok.bs b o e).1 (I.ok.bs b o e).2 (I.ok.OU e) (I.ok.tM b o e),I.base.free b o (I.ok.bs b o e).1 (I.ok.bs b o e).2 (I.ok.tM b o e)⟩
theorem Inv.bk (I:Inv X pins σ H s):∀b o,X.base.get? b=some o->s.heap.get? b=some o:=λb o e=>(I.bs b o e).1
theorem Inv.mod (I:Inv X pins σ H s):Mod X.K X.mg X.base:=I.ok.mod
theorem Inv.d8 (I:Inv X pins σ H s):X.K.In s.heap:=I.ok.mod.jm.keeps I.bk
theorem Inv.lt (I:Inv X pins σ H s):X.env.locals<s.heap.objs.size:=let ⟨_,hn,_⟩:=I.loc;hn.lt
theorem Inv.sz (I:Inv X pins σ H s):X.s₀.heap.objs.size<=s.heap.objs.size:=Nat.le_trans I.ok.above (Nat.le_of_lt I.lt)
theorem Inv.OV (I:Inv X pins σ H s){a:Addr}(h:s.heap.objs.size<=a):a∉X.fs:=λhb=>by obtain⟨_,o,ho,_⟩:=I.ok.eg.mem hb;exact absurd (Nat.lt_of_lt_of_le (Heap.lt_size ho) (Nat.le_trans I.sz h)) (Nat.lt_irrefl _)
theorem Inv.rS (I:Inv X pins σ H s):∀x c,X.env.cells.lookup x=some c->c≠X.env.locals:=λx c e z=>by obtain⟨v,o,ho,hd⟩:=I.cell x c e;obtain⟨m,⟨o',es,ep,ho',iD,_⟩,_⟩:=I.loc;rw[z,ho'] at ho;cases ho;rw[iD] at hd;cases hd
theorem Inv.eg (I:Inv X pins σ H s):s.heap.FunFrames X.base X.outer:=by
 have all:∀(l:List Env),(∀b∈lO l,b∈X.fs)->X.s₀.heap.FunFrames X.base l->s.heap.FunFrames X.base l:=by
  intro l
  induction l with
  | nil=>intro _ _;trivial
  | cons env r ih=>intro hs hl;obtain⟨hk,⟨L,o,hf,hn,ho,hd⟩,hr⟩:=hl;have hL:L∈X.fs:=hs L (by unfold lO;rw[List.filterMap_cons,hf];exact List.mem_cons_self);obtain⟨sl,e⟩:=I.base.slot L o ho (I.ok.uS L hL) hL λz=>I.ok.xT L z hL;exact⟨hk,⟨L,_,hf,hn,e,hd⟩,ih (λb hb=>hs b (by unfold lO;rw[List.filterMap_cons,hf];exact List.mem_cons_of_mem _ hb)) hr⟩
 exact all X.outer (λ_ hb=>hb) I.ok.eg
theorem Inv.stack (I:Inv X pins σ H s):s.heap.FunFrames X.base X.stack:=by
 rcases I.ok.DL with e | ⟨e,hf⟩
 .rw[e];exact I.eg
 .rw[e];obtain⟨m,hn,_⟩:=I.loc;refine .cons (by rw[I.ok.kind];decide) hf hn ?_ I.eg;exact Heap.get?_none_of_le (Nat.le_trans I.ok.qb I.ok.above)
theorem Inv.rj (I:Inv X pins σ H s):∀b∈lO X.stack,b∈X.env.locals::X.fs:=λb hb=>by
 rcases I.ok.DL with e | ⟨e,hf⟩
 .rw[e] at hb;exact List.mem_cons_of_mem _ hb
 .rw[e] at hb;unfold lO at hb;rw[List.filterMap_cons,hf] at hb;exact hb
theorem Inv.zU (I:Inv X pins σ H s):∀b∈lO X.stack,H b=none:=λb hb=>by
 rcases List.mem_cons.mp (I.rj b hb) with e | hb
 .rw[e];exact I.free
 .obtain⟨_,o,ho,_⟩:=I.ok.eg.mem hb;exact I.base.free b o ho (I.ok.uS b hb) λz=>I.ok.xT b z hb
theorem Inv.step {g':Array GenState}{t':Nat}{d':Drawn}{ch:List Addr}(I:Inv X pins σ H s)
 (qc:∀b∈ch,(b∈X.ex\/X.s₀.heap.objs.size<=b)/\b≠X.env.locals/\(∀x c,X.env.cells.lookup x=some c->c≠b)/\∀p∈X.pn++pins,p.1≠b)
 (keep:∀b o,b≠X.env.locals->b∉X.fs->b∉ch->s.heap.get? b=some o->H b=none->h'.get? b=some o)
 (slot:∀b o,b≠X.env.locals->b∈X.fs->b∉ch->s.heap.get? b=some o->H b=none->∃sl,h'.get? b=some { o with slots:=sl }) (free:∀b o,b∉ch->s.heap.get? b=some o->H b=none->H' b=none)
 (there:∀b o,b∉ch->s.heap.get? b=some o->∃o',h'.get? b=some o')
 (dM:∀b xs,H b=some (.tup xs)->H' b=some (.tup xs)) (c6:∀b o u,H b=some (.bR o u)->H' b=some (.bR o u)) (jt:∀b ps,H b=some (.gq ps)->∃more,H' b=some (.gq (ps++more)))
 (ns:∀m,s.heap.Ns X.env.locals m->h'.Ns X.env.locals m) (aq:aT X.prog X.w H' h') (hg:AllBare g'):
 Inv X pins σ H' { s with heap:=h',gens:=g',drawn:=d',toks:=t' }:=by
 have neL:∀b o,X.s₀.heap.get? b=some o->b≠X.env.locals:=λb o e=>Nat.ne_of_lt (Nat.lt_of_lt_of_le (Heap.lt_size e) I.ok.above);have neC:∀b o,X.s₀.heap.get? b=some o->b∉X.ex->b∉ch:=λb o e hx hb=>by
  rcases(qc b hb).1 with z | z
  .exact hx z
  .exact absurd (Nat.lt_of_lt_of_le (Heap.lt_size e) z) (Nat.lt_irrefl _)
 have cellK:∀x c,X.env.cells.lookup x=some c->∀v,s.heap.IsCell c v->h'.IsCell c v:=λx c e v ⟨o,ho,hd⟩=>by
  have DM:c∉ch:=λz=>(qc c z).2.2.1 x c e rfl
  by_cases hc:c∈X.fs
  .obtain⟨sl,q⟩:=slot c o (I.rS x c e) hc DM ho (I.eV x c e);exact⟨_,q,hd⟩
  .exact⟨o,keep c o (I.rS x c e) hc DM ho (I.eV x c e),hd⟩
 refine⟨I.ok,I.os,hg,⟨λb o e n hb hx=>?_,λb o e n hb hx=>?_,λb o e n hx=>?_,λb o e hx=>?_,λb xs e=>dM b xs (I.base.dM b xs e),λb o xs e=>c6 b o xs (I.base.c6 b o xs e),λb ps e=>?_⟩,?_,λx c e=>?_,?_,λx c e=>?_,λp hp=>?_,aq,I.len⟩
 .exact keep b o (neL b o e) hb (neC b o e hx) (I.base.keep b o e n hb hx) (I.base.free b o e n hx)
 .obtain⟨sl,e1⟩:=I.base.slot b o e n hb hx;obtain⟨sl',e2⟩:=slot b _ (neL b o e) hb (neC b o e hx) e1 (I.base.free b o e n hx);exact⟨sl',e2⟩
 .obtain⟨o',e1⟩:=I.base.there b o e hx;exact free b o' (neC b o e hx) e1 (I.base.free b o e n hx)
 .obtain⟨o',e1⟩:=I.base.there b o e hx;exact there b o' (neC b o e hx) e1
 .obtain⟨m1,e1⟩:=I.base.jt b ps e;obtain⟨m2,e2⟩:=jt b _ e1;exact⟨m1++m2,by rw[e2,Array.append_assoc]⟩
 .obtain⟨m,hn,hl⟩:=I.loc;refine⟨m,ns m hn,λi x v e1 e2 e3=>?_⟩;obtain⟨u,r,l⟩:=hl i x v e1 e2 e3;refine⟨u,r,?_⟩;rcases l with l | ⟨k,c,e,z⟩
  .exact .inl l
  .exact .inr ⟨k,c,e,cellK x c e _ z⟩
 .obtain⟨v,z⟩:=I.cell x c e;exact⟨v,cellK x c e v z⟩
 .obtain⟨m,⟨o,_,_,ho,_⟩,_⟩:=I.loc;exact free _ o (λz=>(qc _ z).2.1 rfl) ho I.free
 .obtain⟨v,o,ho,hd⟩:=I.cell x c e;exact free c o (λz=>(qc c z).2.2.1 x c e rfl) ho (I.eV x c e)
 .obtain⟨e,n,ne,nf,d⟩:=I.pin p hp;have DM:p.1∉ch:=λz=>(qc p.1 z).2.2.2 p hp rfl;exact⟨keep p.1 p.2 ne nf DM e n,free p.1 p.2 DM e n,ne,nf,d⟩
theorem Inv.un {t':Nat}(I:Inv X pins σ H s)(u:Un X.fs [] H H' s.heap h')(aq:aT X.prog X.w H' h'):Inv X pins σ H' { s with heap:=h',toks:=t' }:=by obtain⟨m,⟨o,es,ep,ho,r⟩,_⟩:=id I.loc;obtain⟨sl,hL⟩:=u.any ho I.free (by simp);exact I.step (g':=s.gens) (d':=s.drawn) (ch:=[]) (λ_ z=>nomatch z) (λb o _ hb _ e n=>u.keep b o e n hb (by simp)) (λb o _ hb _ e n=>u.slot b o e n hb (by simp)) (λb o _ e n=>u.free b o e n (by simp)) (λb o _ e=>u.there b o e (by simp)) u.dM u.c6 u.jt (λm' hm=>by obtain⟨o',DN,DP,ho',r'⟩:=hm;rw[ho] at ho';cases ho';exact⟨_,DN,DP,hL,r'⟩) aq I.bare
theorem Inv.call {g':Array GenState}{t':Nat}{d':Drawn}{ch:List Addr}(I:Inv X pins σ H s)(u:Un (lO X.stack) ch H H' s.heap h')(aq:aT X.prog X.w H' h')(hg:AllBare g')
 (qc:∀b∈ch,(b∈X.ex\/X.s₀.heap.objs.size<=b)/\b≠X.env.locals/\(∀x c,X.env.cells.lookup x=some c->c≠b)/\∀p∈X.pn++pins,p.1≠b):
 Inv X pins σ H' { s with heap:=h',gens:=g',drawn:=d',toks:=t' }:=by
 obtain⟨m,⟨o,es,ep,ho,r⟩,_⟩:=id I.loc;obtain⟨sl,hL⟩:=u.any ho I.free λz=>(qc _ z).2.1 rfl;exact I.step (ch:=ch) qc (λb o hL hb hc e n=>u.keep b o e n (λz=>(List.mem_cons.mp (I.rj b z)).elim hL hb) hc) (λb o _ _ hc e n=>u.any e n hc) (λb o hc e n=>u.free b o e n hc) (λb o hc e=>u.there b o e hc) u.dM u.c6 u.jt (λm' hm=>by obtain⟨o',DN,DP,ho',r'⟩:=hm;rw[ho] at ho';cases ho';exact⟨_,DN,DP,hL,r'⟩) aq hg
theorem Inv.turned {t':Nat}{it:Addr}(I:Inv X pins σ H s)(k:∀b o,b≠it->s.heap.get? b=some o->h'.get? b=some o)(hn:H it=none)(hL:it≠X.env.locals)
 (h1:it∈X.ex\/X.s₀.heap.objs.size<=it) (h2:∀x c,X.env.cells.lookup x=some c->c≠it) (h3:∀p∈X.pn++pins,p.1≠it):Inv X pins σ H { s with heap:=h',toks:=t' }:=by
 have nit:∀b u,H b=some u->b≠it:=λb u e z=>by rw[z,hn] at e;cases e
 refine I.step (g':=s.gens) (d':=s.drawn) (ch:=[it]) (λb hb=>?_) (λb o _ _ hc e _=>k b o (λz=>hc (by simp[z])) e) (λb o _ _ hc e _=>⟨o.slots,k b o (λz=>hc (by simp[z])) e⟩) (λ_ _ _ _ n=>n)
  (λb o hc e=>⟨o,k b o (λz=>hc (by simp[z])) e⟩) (λ_ _ e=>e) (λ_ _ _ e=>e) (λb ps e=>⟨#[],by rw[e];simp⟩) (λm hm=>?_) (λb u e=>?_) I.bare
 .have e:b=it:=by simpa using hb
  subst e;exact⟨h1,hL,h2,h3⟩
 .obtain⟨o,es,ep,ho,r⟩:=hm;exact⟨o,es,ep,k _ o (Ne.symm hL) ho,r⟩
 .refine(I.aq b u e).ij (λc v hc q=>k c v ?_ q) (λ_ q=>q) λ_ _ q=>q;rcases hc with z | z
  .rw[z];exact nit b u e
  .exact nit c _ z
theorem Inv.tok (I:Inv X pins σ H s)(t:Nat):Inv X pins σ H { s with toks:=t }:=I.un (h':=s.heap) (t':=t) Un.refl I.aq
theorem Inv.kept {t':Nat}(I:Inv X pins σ H s)(k:∀b u,s.heap.get? b=some u->h'.get? b=some u):Inv X pins σ H { s with heap:=h',toks:=t' }:=I.un (Un.kept k) (I.aq.kept k)
theorem Inv.laid {a:Addr}{o:HO}{t':Nat}(I:Inv X pins σ H s)(k:∀b u,s.heap.get? b=some u->h'.get? b=some u)(hp:s.heap.objs.size<=a)(new:aX X.prog X.w (upd H a o) h' a o):
 Inv X pins σ (upd H a o) { s with heap:=h',toks:=t' }:=I.un (Un.laid k hp (I.aq.fresh hp)) (I.aq.laid k hp new)
theorem Inv.write {x e:Addr}{o:HO}{t':Nat}(I:Inv X pins σ H s)(mu:yU (H x))(he:e=x\/H e=some (.own x))(k:∀b u,b≠e->s.heap.get? b=some u->h'.get? b=some u)(zW:∃u,h'.get? e=some u)
 (new:aX X.prog X.w (upd H x o) h' x o):Inv X pins σ (upd H x o) { s with heap:=h',toks:=t' }:=I.un (Un.write mu he k zW) (I.aq.write mu he k zW new)
theorem Inv.oE {HB:List (Addr×Obj)}(I:Inv X pins σ H s)(h:∀p∈HB,s.heap.get? p.1=some p.2/\H p.1=none/\p.1≠X.env.locals/\p.1∉X.fs/\∀v,p.2.data ≠ .cell v):Inv X HB σ H s:=
 ⟨I.ok,I.os,I.bare,I.base,I.loc,I.cell,I.free,I.eV,λp hp=>(List.mem_append.mp hp).elim (λz=>I.pin p (List.mem_append_left _ z)) (h p),I.aq,I.len⟩
theorem wD {N:List Str}(hN:N.Nodup){i j:Nat}{x:Str}(a:N[i]?=some x)(b:N[j]?=some x):i=j:=by obtain⟨h1,e1⟩:=List.getElem?_eq_some_iff.mp a;obtain⟨h2,e2⟩:=List.getElem?_eq_some_iff.mp b;exact(List.getElem_inj hN).mp (e1.trans e2.symm)
theorem uI {M:Model}{A:Around}{E:Value->Sh->Prop}{i:Nat}{x:Str}{v:V}{u:Value}{Q:Unit->Sh->Prop}(I:Inv X pins σ H s)(hN:X.N.Nodup)(hi:X.N[i]?=some x)(hx:Loc X.env.scope x)(r:RelV v u)
 (h:∀s',Inv X pins (σ.set i (some v)) H s'->(∃a,Heap.SameBut a s.heap s'.heap/\(a=X.env.locals\/X.env.cells.lookup x=some a))->Q () s') (hf:X.fn x=true\/X.env.scope.names.lookup x=some .local:=by first | exact .inl rfl | exact .inr rfl | assumption):wpAny M A (storeName X.env x u) Q E s:=by
 obtain⟨m,hn,hl⟩:=id I.loc;have hcls:(X.env.scope.kind == .class||(X.env.scope.kind == .module&&X.env.locals != X.env.globals))=false:=by rw[I.ok.kind];rfl
 have hiσ:i<σ.length:=by rw[I.len];exact(List.getElem?_eq_some_iff.mp hi).1
 have rS:=I.rS;have tracked:∀{a:Addr} {h':Heap},(∃o,s.heap.get? a=some o/\H a=none)->Heap.SameBut a s.heap h'->aT X.prog X.w H h':=λ{a h'} ha hs b ob e=>by
  obtain⟨_,_,HC⟩:=ha;refine(I.aq b ob e).ij (λc w' hc q=>(hs.2 c ?_).trans q) (λ_ q=>q) λ_ _ q=>q;rintro rfl;rcases hc with rfl | hc
  .rw[HC] at e;cases e
  .rw[HC] at hc;cases hc
 rcases hx with hk | hk
 .refine wpAny_storeName_local hk hn (λh' hn' hs=>?_) hcls;obtain⟨oL,_,_,hoL,_⟩:=id hn;refine h _ ⟨I.ok,I.os,I.bare,⟨λb o e n hb hx=>?_,λb o e n hb hx=>?_,I.base.free,λb o e hx=>?_,I.base.dM,I.base.c6,I.base.jt⟩,⟨_,hn',λj y v' e1 e2 e3=>?_⟩,λy c e=>?_,I.free,I.eV,λp hp=>?_,tracked ⟨oL,hoL,I.free⟩ hs,by simpa using I.len⟩ ⟨_,hs,.inl rfl⟩
  .exact(hs.2 b (Nat.ne_of_lt (Nat.lt_of_lt_of_le (Heap.lt_size e) I.ok.above))).trans (I.base.keep b o e n hb hx)
  .obtain⟨sl,e1⟩:=I.base.slot b o e n hb hx;exact⟨sl,(hs.2 b (Nat.ne_of_lt (Nat.lt_of_lt_of_le (Heap.lt_size e) I.ok.above))).trans e1⟩
  .obtain⟨o',e1⟩:=I.base.there b o e hx;exact⟨o',(hs.2 b (Nat.ne_of_lt (Nat.lt_of_lt_of_le (Heap.lt_size e) I.ok.above))).trans e1⟩
  .by_cases hj:j=i
   .subst hj;rw[hi] at e1;cases e1;rw[List.getElem?_set_self hiσ] at e2;cases e2;exact⟨u,r,.inl ⟨hk,by simp⟩⟩
   .rw[List.getElem?_set_ne (Ne.symm hj)] at e2;obtain⟨u',r',q⟩:=hl j y v' e1 e2 e3;refine⟨u',r',?_⟩;rcases q with⟨k,e⟩|⟨k,c,e,z⟩
    .refine .inl ⟨k,?_⟩;have:y≠x:=λe=>hj (wD hN e1 (e ▸ hi));simp[this,e]
    .exact .inr ⟨k,c,e,z.sameBut hs (rS y c e)⟩
  .obtain⟨w',z⟩:=I.cell y c e;exact⟨w',z.sameBut hs (rS y c e)⟩
  .obtain⟨e,n,ne,nf,d⟩:=I.pin p hp;exact⟨(hs.2 p.1 ne).trans e,n,ne,nf,d⟩
 .have hfn:X.fn x=true:=by
   rcases hf with z | z
   .exact z
   .rw[z] at hk;cases hk
  obtain⟨c,hc⟩:=I.ok.has x (.inl hk);obtain⟨w',z⟩:=I.cell x c hc;refine wpAny_storeName_cell I.ok.kind hk hc z (λh' qd hs=>?_);obtain⟨oc,hoc,hocd⟩:=id z;refine h { s with heap:=h' } ⟨I.ok,I.os,I.bare,⟨λb o e n hb hx=>?_,λb o e n hb hx=>?_,I.base.free,λb o e hx=>?_,I.base.dM,I.base.c6,I.base.jt⟩,⟨m,hn.sameBut hs (Ne.symm (rS x c hc)),λj y v' e1 e2 e3=>?_⟩,λy c' e=>?_,I.free,I.eV,λp hp=>?_,tracked ⟨oc,hoc,I.eV x c hc⟩ hs,by simpa using I.len⟩ ⟨c,hs,.inr hc⟩
  .exact(hs.2 b (Nat.ne_of_lt (Nat.lt_of_lt_of_le (Heap.lt_size e) (I.ok.zX x c hfn hc)))).trans (I.base.keep b o e n hb hx)
  .obtain⟨sl,e1⟩:=I.base.slot b o e n hb hx;exact⟨sl,(hs.2 b (Nat.ne_of_lt (Nat.lt_of_lt_of_le (Heap.lt_size e) (I.ok.zX x c hfn hc)))).trans e1⟩
  .obtain⟨o',e1⟩:=I.base.there b o e hx;exact⟨o',(hs.2 b (Nat.ne_of_lt (Nat.lt_of_lt_of_le (Heap.lt_size e) (I.ok.zX x c hfn hc)))).trans e1⟩
  .by_cases hj:j=i
   .subst hj;rw[hi] at e1;cases e1;rw[List.getElem?_set_self hiσ] at e2;cases e2;exact⟨u,r,.inr ⟨.inl hk,c,hc,qd⟩⟩
   .rw[List.getElem?_set_ne (Ne.symm hj)] at e2;obtain⟨u',r',q⟩:=hl j y v' e1 e2 e3;refine⟨u',r',?_⟩;rcases q with q | ⟨k,c',e,z'⟩
    .exact .inl q
    .refine .inr ⟨k,c',e,z'.sameBut hs ?_⟩;rintro rfl;exact hj (wD hN e1 (I.ok.inj _ _ _ e hc ▸ hi))
  .by_cases hcc:c'=c
   .subst hcc;exact⟨_,qd⟩
   .obtain⟨w2,z2⟩:=I.cell y c' e;exact⟨w2,z2.sameBut hs hcc⟩
  .obtain⟨e,n,ne,nf,d⟩:=I.pin p hp;refine⟨(hs.2 p.1 ?_).trans e,n,ne,nf,d⟩;intro q;rw[q,hoc] at e;have q':oc=p.2:=Option.some.inj e;exact d w' (by rw[<-q'];exact hocd)
theorem gQ {M:Model}{A:Around}{E:Value->Sh->Prop}{i:Nat}{x:Str}{v:V}{u:Value}{Q:Unit->Sh->Prop}(I:Inv X pins σ H s)(hN:X.N.Nodup)(hi:X.N[i]?=some x)(hx:Loc X.env.scope x)(r:RelV v u)
 (h:∀s',Inv X pins (σ.set i (some v)) H s'->Q () s') (hf:X.fn x=true\/X.env.scope.names.lookup x=some .local:=by first | exact .inl rfl | exact .inr rfl | assumption):wpAny M A (storeName X.env x u) Q E s:=
 uI I hN hi hx r (λs' I' _=>h s' I') hf
theorem Inv.NU {s':Sh}{ch:List Addr}(I:Inv X pins σ H s)(ho:s'.os=s.os)(u:Un (lO X.stack) ch H H' s.heap s'.heap)(aq:aT X.prog X.w H' s'.heap)(hg:AllBare s'.gens)
 (qc:∀b∈ch,(b∈X.ex\/X.s₀.heap.objs.size<=b)/\b≠X.env.locals/\(∀x c,X.env.cells.lookup x=some c->c≠b)/\∀p∈X.pn++pins,p.1≠b):Inv X pins σ H' s':=by
 obtain⟨h',g',d',t',o'⟩:=s';have e:o'=s.os:=ho;subst e;exact I.call (g':=g') (t':=t') (d':=d') u aq hg qc
end
abbrev XK:=Value->Option Addr->Hp->Prop
abbrev St:=List (Option V)
abbrev VK:=V->Hp->Prop
abbrev TE:=St->Hp->VK->Prop
abbrev TT:=St->Hp->(Bool->Hp->Prop)->Prop
abbrev TA:=St->Hp->(List V->Hp->Prop)->Prop
structure Ends where
 nx:St->Hp->Prop
 rt:VK
 bk:St->Hp->Prop:=λ_ _=>False
 ct:St->Hp->Prop:=λ_ _=>False
abbrev TS:=Ends->St->Hp->Prop
def EP (X:Cx)(pins:List (Addr×Obj))(σ:St)(Q:VK)(u:Value)(s':Sh):Prop:=∃v H',Inv X pins σ H' s'/\RelV v u/\Q v H'
def TP (X:Cx)(pins:List (Addr×Obj))(σ:St)(Q:Bool->Hp->Prop)(b:Bool)(s':Sh):Prop:=∃H',Inv X pins σ H' s'/\Q b H'
def AP (X:Cx)(pins:List (Addr×Obj))(σ:St)(Q:List V->Hp->Prop)(us:List Value)(s':Sh):Prop:=∃vs H',Inv X pins σ H' s'/\Vals vs us/\Q vs H'
def SP (X:Cx)(pins:List (Addr×Obj))(D:Ends)(f:Flow)(s':Sh):Prop:=
 match f with
 | .next=>∃σ' H',Inv X pins σ' H' s'/\D.nx σ' H'
 | .brk=>∃σ' H',Inv X pins σ' H' s'/\D.bk σ' H'
 | .cont=>∃σ' H',Inv X pins σ' H' s'/\D.ct σ' H'
 | .ret u=>∃v σ' H',Inv X pins σ' H' s'/\RelV v u/\D.rt v H'
def PE (X:Cx)(e:Expr)(t:TE):Prop:=
 ∀(pins:List (Addr×Obj)) (s:Sh) (σ:St) (H:Hp) (Q:VK),Inv X pins σ H s->t σ H Q->wpAny (model X.prog X.w) X.A (eval e X.env) (EP X pins σ Q) X.xe s
def PT (X:Cx)(e:Expr)(t:TT):Prop:=
 ∀(pins:List (Addr×Obj)) (s:Sh) (σ:St) (H:Hp) (Q:Bool->Hp->Prop),Inv X pins σ H s->t σ H Q->wpAny (model X.prog X.w) X.A (isTrue e X.env (eval e X.env)) (TP X pins σ Q) X.xe s
def PW (X:Cx)(e:Expr)(t:TT):Prop:=
 ∀(whole:Sem Value) (pins:List (Addr×Obj)) (s:Sh) (σ:St) (H:Hp) (Q:Bool->Hp->Prop),Inv X pins σ H s->t σ H Q->wpAny (model X.prog X.w) X.A (isTrue e X.env whole) (TP X pins σ Q) X.xe s
theorem PW.pt {X:Cx}{e:Expr}{t:TT}(h:PW X e t):PT X e t:=h _
def PA (X:Cx)(es:List Expr)(t:TA):Prop:=
 ∀(pos:Pos) (pins:List (Addr×Obj)) (s:Sh) (σ:St) (H:Hp) (Q:List V->Hp->Prop),Inv X pins σ H s->t σ H Q->wpAny (model X.prog X.w) X.A (spliced (backTo pos (starEach es X.env))) (AP X pins σ Q) X.xe s
def PS (X:Cx)(st:Stmt)(t:TS):Prop:=
 ∀(pins:List (Addr×Obj)) (s:Sh) (σ:St) (H:Hp) (D:Ends),Inv X pins σ H s->t D σ H->wpAny (model X.prog X.w) X.A (exec st X.env) (SP X pins D) X.xe s
def iC (X:Cx)(st:List Stmt)(t:TS):Prop:=
 ∀(pins:List (Addr×Obj)) (s:Sh) (σ:St) (H:Hp) (D:Ends),Inv X pins σ H s->t D σ H->wpAny (model X.prog X.w) X.A (execs st X.env) (SP X pins D) X.xe s
theorem aQ {α:Type}{t:Sem α}{Q Q':α->Sh->Prop}{M:Model}{A:Around}{E:Value->Sh->Prop}{s:Sh}(h:wpAny M A t Q E s)(hQ:∀a s,Q a s->Q' a s):wpAny M A t Q' E s:=wpAny_mono h hQ λ_ _ x=>x
section
variable {X:Cx}
def OT (i:Nat):TE:=λσ H Q=>∃v,σ[i]?=some (some v)/\Q v H
def tC (v:V):TE:=λ_ H Q=>Q v H
theorem Ma {i:Nat}{x:Str}{pos:Pos}(hN:X.N[i]?=some x)(hv:xk X.env.scope x)(hd:(x==("__debug__":Str))=false:=by decide)(sI:(x==("__classdict__":Str))=false:=by decide):PE X (.Name x pos) (OT i):=by
 intro pins s σ H Q I h;obtain⟨v,e,h⟩:=h;obtain⟨m,hn,hl⟩:=I.loc;obtain⟨u,r,l⟩:=hl i x v hN e hv;have fin:EP X pins σ Q u s:=⟨v,H,I,r,h⟩;rcases l with⟨hk,hm⟩|⟨hk,c,hc,HD⟩
 .exact wpAny_Name (wpAny_loadName_local I.ok.kind hk hn hm fin) hd
 .rcases hk with hk | hk
  .exact wpAny_Name (wpAny_loadName_cell I.ok.kind hk hc HD fin) hd
  .exact wpAny_Name (wpAny_loadName_free I.ok.kind hk hc HD fin sI) hd
theorem xH {i j pos}:PE X (.Constant (.int i) j pos) (tC (.int i)):=λ_ _ _ H _ I h=>wpAny_Constant_int ⟨.int i,H,I.tok _,⟨_,rfl⟩,h⟩
theorem NP {b j pos}:PE X (.Constant (.bool b) j pos) (tC (.bl b)):=λ_ _ _ H _ I h=>Constant_bool ⟨.bl b,H,I,rfl,h⟩
theorem KW {j pos}:PE X (.Constant .none j pos) (tC .aj):=λ_ _ _ H _ I h=>Constant_none ⟨.aj,H,I,rfl,h⟩
theorem LR {x j pos}:PE X (.Constant (.str x) j pos) (tC (.str x)):=λ_ _ _ H _ I h=>Calls.Constant_str ⟨.str x,H,I.tok _,⟨_,rfl⟩,h⟩
def Gl (X:Cx)(x:Str):Prop:=X.env.kindOf x=some .globalImplicit
theorem jL {E:Value->Sh->Prop}{pins:List (Addr×Obj)}{s:Sh}{σ:St}{H:Hp}{x:Str}{u:Value}{pos:Pos}{Q:Value->Sh->Prop}(I:Inv X pins σ H s)(hg:Gl X x)(hm:X.mg x=some u)(h:Q u s)
 (hd:(x==("__debug__":Str))=false:=by decide):wpAny (model X.prog X.w) X.A (eval (.Name x pos) X.env) Q E s:=
 Calls.Name_function_global I.ok.kind hg (Calls.loadGlobal_global (by rw[I.ok.glob];exact I.mod.glob.keeps I.bk) hm h) hd
theorem nQ {E:Value->Sh->Prop}{pins:List (Addr×Obj)}{s:Sh}{σ:St}{H:Hp}{x:Str}{u:Value}{pos:Pos}{Q:Value->Sh->Prop}(I:Inv X pins σ H s)(hg:Gl X x)(hm:X.mg x=none)(hv:bootBuiltins x=some u)(h:Q u s)
 (hn:x ≠ "__name__":=by decide) (hd:(x==("__debug__":Str))=false:=by decide):wpAny (model X.prog X.w) X.A (eval (.Name x pos) X.env) Q E s:=by
 obtain⟨mb,h1,h2⟩:=I.mod.blt;exact Calls.Name_function_global I.ok.kind hg (Calls.loadGlobal_builtin (by rw[I.ok.glob];exact I.mod.glob.keeps I.bk) hm (by rw[I.ok.blt];exact h1.keeps I.bk) ((h2 x hn).trans hv) h) hd
theorem Jn {x:Str}{v:V}{u:Value}{pos:Pos}(hg:Gl X x)(hm:X.mg x=some u)(r:RelV v u)(hd:(x==("__debug__":Str))=false:=by decide):PE X (.Name x pos) (tC v):=
 λ_ _ _ H _ I h=>jL I hg hm ⟨v,H,I,r,h⟩ hd
theorem IS {x:Str}{v:V}{u:Value}{pos:Pos}(hg:Gl X x)(hm:X.mg x=none)(hv:bootBuiltins x=some u)(r:RelV v u)(hn:x ≠ "__name__":=by decide)(hd:(x==("__debug__":Str))=false:=by decide):PE X (.Name x pos) (tC v):=
 λ_ _ _ H _ I h=>nQ I hg hm hv ⟨v,H,I,r,h⟩ hn hd
variable {a b:Expr}{ta tb:TE}{pos:Pos}
variable {tA tB':TT}{rest:List Expr}
def O2 (t u:TT):TT:=λσ H Q=>t σ H λc H1=>if c=true then u σ H1 Q else Q false H1
def P0 (t u:TT):TT:=λσ H Q=>t σ H λc H1=>if c=true then Q true H1 else u σ H1 Q
def Px (t:TT):TT:=λσ H Q=>t σ H λc H1=>Q (!c) H1
theorem JP (ha:PT X a tA):PW X (.BoolOp .And [a] pos) tA:=by
 intro wh pins s σ H Q I h;refine isTrue_and (aQ (ha pins s σ H Q I h) λc s1 e=>?_);cases c with
 | true=>exact isTrue_and_nil e
 | false=>exact e
theorem KY (ha:PT X a tA):PW X (.BoolOp .Or [a] pos) tA:=by
 intro wh pins s σ H Q I h;refine isTrue_or (aQ (ha pins s σ H Q I h) λc s1 e=>?_);cases c with
 | false=>exact isTrue_or_nil e
 | true=>exact e
theorem LL (ha:PT X a tA)(hb:PW X (.BoolOp .And (b::rest) pos) tB'):PW X (.BoolOp .And (a::b::rest) pos) (O2 tA tB'):=by
 intro wh pins s σ H Q I h;refine isTrue_and (aQ (ha pins s σ H _ I h) λc s1 ⟨H1,I1,q1⟩=>?_);cases c with
 | true=>exact hb wh pins s1 σ H1 Q I1 q1
 | false=>exact⟨H1,I1,q1⟩
theorem NL (ha:PT X a tA)(hb:PW X (.BoolOp .Or (b::rest) pos) tB'):PW X (.BoolOp .Or (a::b::rest) pos) (P0 tA tB'):=by
 intro wh pins s σ H Q I h;refine isTrue_or (aQ (ha pins s σ H _ I h) λc s1 ⟨H1,I1,q1⟩=>?_);cases c with
 | true=>exact⟨H1,I1,q1⟩
 | false=>exact hb wh pins s1 σ H1 Q I1 q1
theorem Lx (ha:PT X a tA):PT X (.UnaryOp .Not a pos) (Px tA):=by intro pins s σ H Q I h;exact isTrue_not (ha pins s σ H (λc H1=>Q (!c) H1) I h)
def N0 (ta tb:TE):TE:=λσ H Q=>ta σ H λx H1=>∃c,x = .bl c/\if c=true then tb σ H1 Q else Q (.bl false) H1
def O8 (ta tb:TE):TE:=λσ H Q=>ta σ H λx H1=>∃c,x = .bl c/\if c=true then Q (.bl true) H1 else tb σ H1 Q
def NY (ta:TE):TE:=λσ H Q=>ta σ H λx H1=>∃c,x = .bl c/\Q (.bl (!c)) H1
theorem Ll {op}{t:TE}(h:PE X a t):PE X (.BoolOp op [a] pos) t:=λpins s σ H Q I hw=>BoolOp_one (h pins s σ H Q I hw)
theorem L5 (ha:PE X a ta)(hb:PE X (.BoolOp .And (b::rest) pos) tb):PE X (.BoolOp .And (a::b::rest) pos) (N0 ta tb):=by
 intro pins s σ H Q I h;refine BoolOp_and (aQ (ha pins s σ H _ I h) λv s1 ⟨x,H1,I1,r1,q1⟩=>?_);obtain⟨c,rfl,q1⟩:=q1;cases r1;refine wpAny_truthy_bool ?_;cases c with
 | true=>exact hb pins s1 σ H1 Q I1 q1
 | false=>exact⟨.bl false,H1,I1,rfl,q1⟩
theorem NZ (ha:PE X a ta)(hb:PE X (.BoolOp .Or (b::rest) pos) tb):PE X (.BoolOp .Or (a::b::rest) pos) (O8 ta tb):=by
 intro pins s σ H Q I h;refine BoolOp_or (aQ (ha pins s σ H _ I h) λv s1 ⟨x,H1,I1,r1,q1⟩=>?_);obtain⟨c,rfl,q1⟩:=q1;cases r1;refine wpAny_truthy_bool ?_;cases c with
 | false=>exact hb pins s1 σ H1 Q I1 q1
 | true=>exact⟨.bl true,H1,I1,rfl,q1⟩
theorem ML (ha:PE X a ta):PE X (.UnaryOp .Not a pos) (NY ta):=by intro pins s σ H Q I h;refine UnaryOp_ (aQ (ha pins s σ H _ I h) λv s1 ⟨x,H1,I1,r1,q1⟩=>?_);obtain⟨c,rfl,q1⟩:=q1;cases r1;exact not_of (wpAny_truthy_bool ⟨.bl (!c),H1,I1,rfl,q1⟩)
def PQ (t:TT)(ta tb:TE):TE:=λσ H Q=>t σ H λc H1=>if c=true then ta σ H1 Q else tb σ H1 Q
theorem Fd {c:Expr}(hc:PT X c tA)(ha:PE X a ta)(hb:PE X b tb):PE X (.IfExp c a b pos) (PQ tA ta tb):=by
 intro pins s σ H Q I h;refine wpAny_IfExp (aQ (hc pins s σ H _ I h) λd s1 ⟨H1,I1,q1⟩=>?_);cases d with
 | true=>exact ha pins s1 σ H1 Q I1 q1
 | false=>exact hb pins s1 σ H1 Q I1 q1
end
def cm (K:Fg)(H:Hp)(a:Addr)(xs:List V):Prop:=
 Rd H a (.lst xs) \/
  ∃(o:Obj) (ai:Array Value) (n:Nat),K.lookup a=some o/\o.cls = .type "list"/\o.dict=none/\o.data = .seq ai n/\ai.size<=sizeLine/\Vals xs ai.toList
def cy (K:Fg)(H:Hp)(a:Addr)(xs:List V):Prop:=
 Rd H a (.tup xs) \/
  ∃(o:Obj) (ai:Array Value) (n:Nat),K.lookup a=some o/\o.cls = .type "tuple"/\o.data = .seq ai n/\ai.size<=sizeLine/\Vals xs ai.toList
def PH:Value->Option V
 | .none=>some .aj
 | .bool b=>some (.bl b)
 | .int i _=>some (.int i)
 | .str x _=>some (.str x)
 | .bytes b _=>some (.p9 b)
 | .float b _=>some (.sH b)
 | .ref a=>some (.ref a)
 | .type n=>some (.ty n)
 | _=>none
theorem RelV.abs {x:V}{u:Value}(r:RelV x u):PH u=some x:=by
 cases x with
 | aj=>cases r;rfl
 | bl _=>cases r;rfl
 | int _=>obtain⟨t,rfl⟩:=r;rfl
 | str _=>obtain⟨t,rfl⟩:=r;rfl
 | p9 _=>obtain⟨t,rfl⟩:=r;rfl
 | sH _=>obtain⟨t,rfl⟩:=r;rfl
 | ref _=>cases r;rfl
 | ty _=>cases r;rfl
theorem RelV.inj {x y:V}{u:Value}(r:RelV x u)(q:RelV y u):x=y:=Option.some.inj (r.abs.symm.trans q.abs)
theorem Vals.inj:∀{xs ys:List V} {us:List Value},Vals xs us->Vals ys us->xs=ys
 | _,_,_,.nil,.nil=>rfl
 | _,_,_,.cons r t,.cons r' t'=>by rw[r.inj r',Vals.inj t t']
section
variable {X:Cx}{pins:List (Addr×Obj)}{σ:St}{H:Hp}{s:Sh}{a:Addr}{xs ys:List V}
theorem cm.of {K:Fg}(h:H a=some (.lst xs)):cm K H a xs:=.inl (.inl h)
theorem cy.of {K:Fg}(h:H a=some (.tup xs)):cy K H a xs:=.inl (.inl h)
theorem Inv.list (I:Inv X pins σ H s)(h:cm X.K H a xs):∃ai:List Value,Vals xs ai/\PlainL s.heap a ai.toArray/\xs.length<=sizeLine:=by
 rcases h with h | ⟨o,ai,n,hk,hc,hd,hs,hz,r⟩
 .obtain⟨z,ai,n,r,e⟩:=h.ok I.aq;exact⟨ai,r,⟨_,n,e,rfl,rfl,rfl⟩,z⟩
 .refine⟨ai.toList,r,⟨o,n,I.d8 a o hk,hc,hd,by simpa using hs⟩,?_⟩;have e:=r.length;simp only[Array.length_toList] at e;omega
theorem Inv.tuple (I:Inv X pins σ H s)(h:cy X.K H a xs):∃ai:List Value,Vals xs ai/\IsTup s.heap a ai.toArray/\xs.length<=sizeLine:=by
 rcases h with h | ⟨o,ai,n,hk,hc,hs,hz,r⟩
 .obtain⟨z,ai,r,p⟩:=h.ok I.aq;exact⟨ai,r,p,z⟩
 .refine⟨ai.toList,r,⟨o,I.d8 a o hk,hc,n,by simpa using hs⟩,?_⟩;have e:=r.length;simp only[Array.length_toList] at e;omega
theorem Inv.qP (I:Inv X pins σ H s)(h:cm X.K H a xs)(h':cm X.K H a ys):xs=ys:=by
 obtain⟨ai,r,⟨o,n,e,_,_,d⟩,_⟩:=I.list h;obtain⟨its',r',⟨o',n',e',_,_,d'⟩,_⟩:=I.list h';rw[e] at e';cases e';rw[d] at d';injection d' with d1 _;have:ai=its':=by simpa using congrArg Array.toList d1
 subst this;exact r.inj r'
theorem Inv.uk (I:Inv X pins σ H s)(h:cy X.K H a xs)(h':cy X.K H a ys):xs=ys:=by
 obtain⟨ai,r,⟨o,e,_,n,d⟩,_⟩:=I.tuple h;obtain⟨its',r',⟨o',e',_,n',d'⟩,_⟩:=I.tuple h';rw[e] at e';cases e';rw[d] at d';injection d' with d1 _;have:ai=its':=by simpa using congrArg Array.toList d1
 subst this;exact r.inj r'
end
abbrev Cx.kZ (X:Cx)(E:Value->Sh->Prop):Cx:={ X with xe:=E }
abbrev Cx.cT (X:Cx):Cx:=X.kZ λ_ _=>False
theorem Cx.Ok.kZ {X:Cx}(ok:X.Ok)(E:Value->Sh->Prop):(X.kZ E).Ok:=
 ⟨ok.mod,ok.kind,ok.glob,ok.blt,ok.above,ok.inj,ok.has,ok.zX,ok.hd,ok.frames,ok.DL,ok.exf,ok.bs,ok.qb,ok.tM,ok.xT,ok.eg,ok.uS⟩
theorem Cx.Ok.jc {X:Cx}{E:Value->Sh->Prop}(ok:(X.kZ E).Ok):X.Ok:=
 ⟨ok.mod,ok.kind,ok.glob,ok.blt,ok.above,ok.inj,ok.has,ok.zX,ok.hd,ok.frames,ok.DL,ok.exf,ok.bs,ok.qb,ok.tM,ok.xT,ok.eg,ok.uS⟩
section
variable {X:Cx}{pins:List (Addr×Obj)}{σ:St}{H:Hp}{s:Sh}{E:Value->Sh->Prop}
theorem Inv.kZ (I:Inv X pins σ H s)(E:Value->Sh->Prop):Inv (X.kZ E) pins σ H s:=⟨I.ok.kZ E,I.os,I.bare,I.base,I.loc,I.cell,I.free,I.eV,I.pin,I.aq,I.len⟩
theorem Inv.jc (I:Inv (X.kZ E) pins σ H s):Inv X pins σ H s:=⟨I.ok.jc,I.os,I.bare,I.base,I.loc,I.cell,I.free,I.eV,I.pin,I.aq,I.len⟩
theorem SP.jc {D:Ends}{f:Flow}{s':Sh}(h:SP (X.kZ E) pins D f s'):SP X pins D f s':=by
 cases f with
 | next=>obtain⟨σ',H',I,q⟩:=h;exact⟨σ',H',I.jc,q⟩
 | brk=>obtain⟨σ',H',I,q⟩:=h;exact⟨σ',H',I.jc,q⟩
 | cont=>obtain⟨σ',H',I,q⟩:=h;exact⟨σ',H',I.jc,q⟩
 | ret u=>obtain⟨v,σ',H',I,r,q⟩:=h;exact⟨v,σ',H',I.jc,r,q⟩
end
section
variable {X:Cx}{st:Stmt}{rest:List Stmt}{t u:TS}{e:Expr}{te:TE}{pos:Pos}
def Hm:TS:=λD σ H=>D.nx σ H
def OX (t u:TS):TS:=λD σ H=>t { D with nx:=u D } σ H
theorem HU:iC X [] Hm:=λ_ _ σ H _ I h=>wpAny_execs_nil ⟨σ,H,I,h⟩
theorem E3 (h1:PS X st t)(h2:iC X rest u):iC X (st::rest) (OX t u):=by
 intro pins s σ H D I h;refine wpAny_execs_cons (aQ (h1 pins s σ H { D with nx:=u D } I h) λf s1 q=>?_);cases f with
 | next=>obtain⟨σ',H',I',q⟩:=q;exact h2 pins s1 σ' H' D I' q
 | ret v=>exact q
 | brk=>exact q
 | cont=>exact q
def M0:TS:=λD σ H=>D.bk σ H
def NN:TS:=λD σ H=>D.ct σ H
theorem JR:PS X (.Pass pos) Hm:=λ_ _ σ H _ I h=>wpAny_Pass ⟨σ,H,I,h⟩
theorem EJ:PS X (.Break pos) M0:=λ_ _ σ H _ I h=>wpAny_Break ⟨σ,H,I,h⟩
theorem yL:PS X (.Continue pos) NN:=λ_ _ σ H _ I h=>wpAny_Continue ⟨σ,H,I,h⟩
theorem Inv.quiet {pins:List (Addr×Obj)}{σ:St}{H:Hp}{s:Sh}(I:Inv X pins σ H s):interactive X.env=false:=by simp[interactive,I.ok.kind]
def Nz (te:TE):TS:=λD σ H=>te σ H λ_ H1=>D.nx σ H1
theorem HN (he:PE X e te)(hs:swapsWith e none pos.line X.env=pure false:=by rfl):PS X (.Expr e pos) (Nz te):=by intro pins s σ H D I h;exact wpAny_Expr_any (aQ (he pins s σ H _ I h) λv s1 ⟨x,H1,I1,r1,q1⟩=>⟨σ,H1,I1,q1⟩) I.quiet hs
def Pr (te:TE):TS:=λD σ H=>te σ H D.rt
theorem KG (he:PE X e te):PS X (.Return (some e) pos) (Pr te):=by intro pins s σ H D I h;exact wpAny_Return_some (aQ (he pins s σ H _ I h) λv s1 ⟨x,H1,I1,r1,q1⟩=>⟨x,σ,H1,I1,r1,q1⟩)
def Ow:TS:=λD _ H=>D.rt .aj H
theorem ID:PS X (.Return none pos) Ow:=λ_ _ σ H _ I h=>wpAny_Return_none ⟨.aj,σ,H,I,rfl,h⟩
def PC (c:TT)(t u:TS):TS:=λD σ H=>c σ H λb H1=>if b=true then t D σ H1 else u D σ H1
theorem Nw {c:Expr}{a b:List Stmt}{tc:TT}(hc:PT X c tc)(ha:iC X a t)(hb:iC X b u):PS X (.If c a b pos) (PC tc t u):=by
 intro pins s σ H D I h;refine wpAny_If (aQ (hc pins s σ H _ I h) λd s1 ⟨H1,I1,q1⟩=>?_);cases d with
 | true=>exact ha pins s1 σ H1 D I1 q1
 | false=>exact hb pins s1 σ H1 D I1 q1
end
abbrev TG:=V->St->Hp->(St->Hp->Prop)->Prop
abbrev uG:=List V->St->Hp->(St->Hp->Prop)->Prop
def PG (X:Cx)(target:Expr)(t:TG):Prop:=
 ∀(pins:List (Addr×Obj)) (s:Sh) (σ:St) (H:Hp) (v:V) (u:Value) (Q:St->Hp->Prop),Inv X pins σ H s->RelV v u->t v σ H Q ->
  wpAny (model X.prog X.w) X.A (assign target X.env u) (λ_ s'=>∃σ' H',Inv X pins σ' H' s'/\Q σ' H') X.xe s
def zA (X:Cx)(ts:List Expr)(t:uG):Prop:=
 ∀(pins:List (Addr×Obj)) (s:Sh) (σ:St) (H:Hp) (vs:List V) (us:List Value) (Q:St->Hp->Prop),Inv X pins σ H s->Vals vs us->t vs σ H Q ->
  wpAny (model X.prog X.w) X.A (assignInOrder ((assignEach ts X.env).map (·.2)) us) (λ_ s'=>∃σ' H',Inv X pins σ' H' s'/\Q σ' H') X.xe s
abbrev tf:=V->V->V->Hp->(Hp->Prop)->Prop
def nu (X:Cx)(t:tf):Prop:=
 ∀(pins:List (Addr×Obj)) (s:Sh) (σ:St) (H:Hp) (o i v:V) (ov iv u:Value) (Q:Hp->Prop),Inv X pins σ H s->RelV o ov->RelV i iv->RelV v u->t o i v H Q ->
  wpAny (model X.prog X.w) X.A (setItem ov iv u) (λ_ s'=>∃H',Inv X pins σ H' s'/\Q H') X.xe s
section
variable {X:Cx}{pos:Pos}
def oF (i:Nat):TG:=λv σ H Q=>Q (σ.set i (some v)) H
theorem pv {i:Nat}{x:Str}(hN:X.N.Nodup)(hi:X.N[i]?=some x)(hx:Loc X.env.scope x)(hf:X.fn x=true\/X.env.scope.names.lookup x=some .local:=by first | exact .inl rfl | exact .inr rfl | assumption):PG X (.Name x pos) (oF i):=by intro pins s σ H v u Q I r h;exact wpAny_assign_Name (gQ I hN hi hx r (λs' I'=>⟨_,H,I',h⟩) hf)
def MK:uG:=λvs σ H Q=>vs=[]/\Q σ H
def GL (t:TG)(u:uG):uG:=λvs σ H Q=>∃v r,vs=v::r/\t v σ H λσ' H'=>u r σ' H' Q
theorem zS:zA X [] MK:=by intro pins s σ H vs us Q I r h;obtain⟨e,h⟩:=h;subst e;cases r;exact assignInOrder_nil ⟨σ,H,I,h⟩
theorem vN {e:Expr}{es:List Expr}{t:TG}{u:uG}(h1:PG X e t)(h2:zA X es u)
 (hs:(assignEach (e::es) X.env).map (·.2)=assign e X.env::(assignEach es X.env).map (·.2):=by rfl):zA X (e::es) (GL t u):=by
 intro pins s σ H vs us Q I r h;obtain⟨v,vr,e1,h⟩:=h;subst e1;cases r with
 | cons r rr=>rw[hs];refine assignInOrder_cons (aQ (h1 pins s σ H _ _ _ I r h) λ_ s1 ⟨σ1,H1,I1,q1⟩=>?_);exact h2 pins s1 σ1 H1 _ _ Q I1 rr q1
def FO (K:Fg)(n:Nat)(t:uG):TG:=λv σ H Q=>∃a xs,v = .ref a/\cy K H a xs/\xs.length=n/\t xs σ H Q
theorem rT {es:List Expr}{k:Nat}{t:uG}{n:Nat}(hc:X.calm=true)(h:zA X es t)
 (hn:(assignEach es X.env).length=n:=by rfl) (hst:(assignEach es X.env).findIdx? (·.1)=none:=by rfl):PG X (.Tuple es k pos) (FO X.K n t):=by
 intro pins s σ H v u Q I r hw;obtain⟨a,xs,e1,hq,hl,hw⟩:=hw;subst e1;cases r;obtain⟨ai,rv,ht,hz⟩:=I.tuple hq;refine assign_Tuple_tuple (I.ok.hd hc) ht (by simp[hn,<-hl,rv.length]) hst λh' hx=>?_;have I1:Inv X pins σ H { s with heap:=h' }:=I.kept (t':=s.toks) λb o e=>hx b o (Nat.ne_of_lt (Heap.lt_size e)) e;exact h pins _ σ H xs _ Q I1 (by simpa using rv) hw
def PJ (to ti:TE)(t:tf):TG:=λv σ H Q=>to σ H λo H1=>ti σ H1 λi H2=>t o i v H2 λH3=>Q σ H3
theorem Kw {o i:Expr}{to ti:TE}{t:tf}(ho:PE X o to)(hi:PE X i ti)(hs:nu X t)
 (ha:∀v,assign (.Subscript o i pos) X.env v=(do
   let ov <-holding [v] (eval o X.env)
   let iv <-holding [v,ov] (eval i X.env)
   standAt pos
   holding [v,ov,iv] (setItem ov iv v)
   release [v,ov,iv] []):=by intro _;rfl):PG X (.Subscript o i pos) (PJ to ti t):=by
 intro pins s σ H v u Q I r h;rw[ha];refine wpAny_bind (wpAny_holding (aQ (ho pins s σ H _ I h) λov s1 ⟨x,H1,I1,r1,q1⟩=>?_));refine wpAny_bind (wpAny_holding (aQ (hi pins s1 σ H1 _ I1 q1) λiv s2 ⟨y,H2,I2,r2,q2⟩=>?_));refine wpAny_bind (wpAny_standAt (wpAny_bind (wpAny_holding (aQ (hs pins s2 σ H2 x y v ov iv u _ I2 r1 r2 r q2) λ_ s3 ⟨H3,I3,q3⟩=>?_))));exact wpAny_release ⟨σ,H3,I3,q3⟩
def Lm (te:TE)(g:TG):TS:=λD σ H=>te σ H λx H1=>g x σ H1 D.nx
theorem xp {tg e:Expr}{te:TE}{g:TG}(he:PE X e te)(hg:PG X tg g)(hs:swapsWithSole [tg] e pos.line X.env=pure false:=by rfl)(hw:swappedStores [tg] e X.env=pure none:=by rfl)
 (h1:(assignEach [tg] X.env).map (·.2)=[assign tg X.env]:=by rfl):PS X (.Assign [tg] e pos) (Lm te g):=by
 intro pins s σ H D I h;refine wpAny_Assign_stores (aQ (he pins s σ H _ I h) λv s1 ⟨x,H1,I1,r1,q1⟩=>?_) hs hw;rw[h1];exact aQ (hg pins s1 σ H1 x v _ I1 r1 q1) λ_ s2 q=>q
theorem M6 {i:Nat}{x:Str}{e:Expr}{te:TE}{pos':Pos}(hN:X.N.Nodup)(hi:X.N[i]?=some x)(hx:Loc X.env.scope x)(he:PE X e te)(hs:swapsWith e (some (.Name x pos')) pos.line X.env=pure false:=by rfl)(hf:X.fn x=true\/X.env.scope.names.lookup x=some .local:=by first | exact .inl rfl | exact .inr rfl | assumption):
 PS X (.Assign [.Name x pos'] e pos) (Lm te (oF i)):=by
 intro pins s σ H D I h;refine wpAny_Assign_Name (aQ (he pins s σ H _ I h) λv s1 ⟨y,H1,I1,r1,q1⟩=>?_) hs;exact gQ I1 hN hi hx r1 (λs2 I2=>⟨_,H1,I2,q1⟩) hf
def Pw (i j:Nat)(ta:TA):TS:=λD σ H=>ta σ H λvs H1=>∃v w,vs=[v,w]/\D.nx ((σ.set i (some v)).set j (some w)) H1
theorem LQ {i j:Nat}{x y:Str}{a b:Expr}{ta:TA}{px py pt:Pos}{kt k2 xU}(hc:X.calm=true)(hN:X.N.Nodup)(hi:X.N[i]?=some x)(hj:X.N[j]?=some y)(DQ:i≠j)
 (hx:X.env.scope.names.lookup x=some .local) (hy:X.env.scope.names.lookup y=some .local) (ha:PA X [a,b] ta)
 (hw:swappedStores [.Tuple [.Name x px,.Name y py] kt pt] (.Tuple [a,b] k2 xU) X.env=pure (some [x,y]))
 (hs:swapsWithSole [.Tuple [.Name x px,.Name y py] kt pt] (.Tuple [a,b] k2 xU) pos.line X.env=pure false:=by rfl):
 PS X (.Assign [.Tuple [.Name x px,.Name y py] kt pt] (.Tuple [a,b] k2 xU) pos) (Pw i j ta):=by
 intro pins s σ H D I h;rw[exec_Assign_arm];refine wpAny_bind (wpAny_standAt ?_);rw[hs];refine wpAny_bind (wpAny_pure ?_);rw[if_neg (by decide)];refine wpAny_bind (Tuple_ (aQ (ha _ pins s σ H _ I h) λus s1 ⟨vs,H1,I1,r1,q1⟩=>?_));obtain⟨v,w,e1,q1⟩:=q1;subst e1;obtain⟨u1,u2,rfl,rv,rw'⟩:∃u1 u2,us=[u1,u2]/\RelV v u1/\RelV w u2:=by
  cases r1 with
  | cons p q=>
   cases q with
   | cons p' q'=>cases q';exact⟨_,_,rfl,p,p'⟩
 refine wpAny_newObj_type ?_ (by show 2<=sizeLine;decide);have I2:Inv X pins σ H1 { s1 with heap:=s1.heap.push { cls:=.type "tuple",data:=.seq [u1,u2].toArray } }:=I1.kept (t':=s1.toks) λb o e=>Heap.get?_push_of_some _ e;rw[hw];refine wpAny_bind (wpAny_pure ?_);show wpAny (model X.prog X.w) X.A (do rule "assign.swapped-stores";let items <-unpackItems (.ref s1.heap.objs.size) 2 none;assignInOrder [λv=>bindName X.env y v,λv=>bindName X.env x v] items.reverse;pure Flow.next) _ _ _;refine wpAny_bind (wpAny_rule (wpAny_bind (unpackItems_tuple (items:=#[u1,u2]) (I.ok.hd hc) (IsTup.new s1.heap _) λh' xV=>?_)));have I3:=I2.kept (h':=h') (t':=s1.toks) λb o e=>xV b o (Nat.ne_of_lt (Heap.lt_size e)) e;show wpAny _ _ (assignInOrder [λv=>bindName X.env y v,λv=>bindName X.env x v] [u2,u1] >>= λ_=>pure Flow.next) _ _ _;refine wpAny_bind (assignInOrder_cons (wpAny_bindName (gQ I3 hN hj (.inl hy) rw' (λs2 I4=>?_) (.inr hy))));refine assignInOrder_cons (wpAny_bindName (gQ I4 hN hi (.inl hx) rv (λs3 I5=>assignInOrder_nil (wpAny_pure ?_)) (.inr hx)));rw[List.set_comm _ _ (Ne.symm DQ)] at I5;exact⟨_,H1,I5,q1⟩
end
section
variable {X:Cx}{pos:Pos}
end
structure It where
 go:Nat->Hp->Prop
 xW:Nat->Hp->V->Hp->Prop
 stop:Nat->Hp->Prop
def eM (X:Cx)(pins:List (Addr×Obj))(H:Hp)(b:Addr):Prop:=
 H b=none/\b≠X.env.locals/\b∉X.fs/\(b∈X.ex\/X.s₀.heap.objs.size<=b)/\(∀x c,X.env.cells.lookup x=some c->c≠b)/\∀p∈X.pn++pins,p.1≠b
theorem Inv.mv {X:Cx}{pins:List (Addr×Obj)}{σ:St}{H H':Hp}{s:Sh}{b:Addr}(I:Inv X pins σ H s)(hb:s.heap.objs.size<=b)(hn:H' b=none):eM X pins H' b:=by
 refine⟨hn,Nat.ne_of_gt (Nat.lt_of_lt_of_le I.lt hb),I.OV hb,.inr (Nat.le_trans I.sz hb),λx c e z=>?_,λp hp z=>?_⟩
 .obtain⟨v,q⟩:=I.cell x c e;exact absurd (Nat.lt_of_lt_of_le q.lt (by rw[z];exact hb)) (Nat.lt_irrefl _)
 .exact absurd (Nat.lt_of_lt_of_le (Heap.lt_size (I.pin p hp).1) (by rw[z];exact hb)) (Nat.lt_irrefl _)
structure Turn (P:Program)(w:World)(K:Fg)(tg:Expr)(J:It)(fp:List Addr)(it:Addr)(tn:Nat->Heap->Prop):Prop where
 mem:it∈fp
 obj:∀i h,tn i h->∀b∈fp,∃o,h.get? b=some o/\∀v,o.data ≠ .cell v
 keep:∀i h h',tn i h->(∀b∈fp,∀o,h.get? b=some o->h'.get? b=some o)->tn i h'
 item:∀(X:Cx),X.prog=P->X.w=w->X.K=K->X.calm=true->∀(i:Nat) (pins:List (Addr×Obj)) (s:Sh) (σ:St) (H:Hp) (E:Value->Sh->Prop),Inv X pins σ H s->(∀b∈fp,eM X pins H b)->tn i s.heap->J.go i H ->
  wpAny (model P w) X.A (pyNext (.ref it)) (λr s1=>∃u,r=some u /\
   wpAny (model P w) X.A (letOwnedTupleGo tg (.ref it) u) (λ_ s2=>∃x H',Inv X pins σ H' s2/\RelV x u/\J.xW i H x H'/\tn (i+1) s2.heap/\∀b∈fp,H' b=none) E s1) E s
 done:∀(X:Cx),X.prog=P->X.w=w->X.K=K->X.calm=true->∀(i:Nat) (pins:List (Addr×Obj)) (s:Sh) (σ:St) (H:Hp) (E:Value->Sh->Prop),Inv X pins σ H s->(∀b∈fp,eM X pins H b)->tn i s.heap->J.stop i H ->
  wpAny (model P w) X.A (pyNext (.ref it)) (λr s1=>r=none/\Inv X pins σ H s1) E s
 self:∀(A:Around) (i:Nat) (s:Sh) (Q:Value->Sh->Prop) (E:Value->Sh->Prop),tn i s.heap->Q (.ref it) s->wpAny (model P w) A (pyIter (.ref it)) Q E s
abbrev TI:=St->Hp->(It->Hp->Prop)->Prop
def OL (X:Cx)(pins:List (Addr×Obj))(σ:St)(tg:Expr)(R:It->Hp->Prop)(itv:Value)(s2:Sh):Prop:=
 ∃(it:Addr) (fp:List Addr) (tn:Nat->Heap->Prop) (J:It) (H':Hp),itv = .ref it/\Inv X pins σ H' s2/\Turn X.prog X.w X.K tg J fp it tn/\tn 0 s2.heap/\(∀b∈fp,eM X pins H' b)/\R J H'
def PI (X:Cx)(tg iter:Expr)(wi:TI):Prop:=
 ∀(pins:List (Addr×Obj)) (s:Sh) (σ:St) (H:Hp) (R:It->Hp->Prop),Inv X pins σ H s->wi σ H R ->
  wpAny (model X.prog X.w) X.A (eval iter X.env) (λv s1=>wpAny (model X.prog X.w) X.A (pyIter v) (OL X pins σ tg R) X.xe s1) X.xe s
theorem rq {M:Model}{A:Around}{E:Value->Sh->Prop}{s:Sh}{tg:Expr}{it:Addr}{u:Value}{o:Obj}{n:String}{vs:Array Value}{Q:Unit->Sh->Prop}(ho:s.heap.get? it=some o)(hc:o.cls = .type n)(hd:o.data = .fields vs)
 (hn:["enumerate","zip","dict_itemiterator","dict_reverseitemiterator","odict_iterator","itertools.zip_longest","itertools.pairwise"].contains n=false) (hQ:Q () s):wpAny M A (letOwnedTupleGo tg (.ref it) u) Q E s:=by
 unfold letOwnedTupleGo;cases tg<;>first
  | exact wpAny_pure hQ
  | (cases u<;>first
      | exact wpAny_pure hQ
      | (refine wpAny_bind (wpAny_load ho ?_)
         rw[hc,hd];show wpAny M A (if (["enumerate","zip","dict_itemiterator","dict_reverseitemiterator","odict_iterator","itertools.zip_longest","itertools.pairwise"].contains n&&vs[0]?==some (rawInt _))=true then _ else _) Q E s;rw[if_neg (by intro h;rw[hn,Bool.false_and] at h;cases h)];exact wpAny_pure hQ))
def y3 (K:Fg)(a:Addr):It:=
 ⟨λi H=>∃xs x,cm K H a xs/\xs[i]?=some x,λi H x H'=>H'=H/\∀xs,cm K H a xs->xs[i]?=some x,λi H=>∃xs,cm K H a xs/\xs.length<=i⟩
def Lp (K:Fg)(a:Addr):It:=
 ⟨λi H=>∃xs x,cy K H a xs/\xs[i]?=some x,λi H x H'=>H'=H/\∀xs,cy K H a xs->xs[i]?=some x,λi H=>∃xs,cy K H a xs/\xs.length<=i⟩
def GQ (lo:Int)(n:Nat):It:=⟨λi _=>i<n,λi H x H'=>H'=H/\x = .int (lo+i),λi _=>n<=i⟩
theorem DC {P:Program}{w:World}{K:Fg}{tg:Expr}(a it:Addr):Turn P w K tg (y3 K a) [it] it (λi h=>h.IsListIter it a i) where
 mem:=by simp
 obj:=λi h st b hb=>by
  have e:b=it:=by simpa using hb
  subst e;obtain⟨o,e,c,d⟩:=st;exact⟨o,e,λv z=>by rw[d] at z;cases z⟩
 keep:=λi h h' st k=>st.at λo e=>k it (by simp) o e
 item:=by intro X hP hw hK hc i pins s σ H E I hf st hg;subst hP hw hK;obtain⟨xs,x,hq,hx⟩:=hg;obtain⟨ai,rv,p,hz⟩:=I.list hq;obtain⟨u,hu,ru⟩:=rv.get hx;obtain⟨f0,f1,f2,f3,f4,f5⟩:=hf it (by simp);refine wpAny_pyNext_list_item st p.isList (x:=u) (by simpa using hu) λh' jw sb=>?_;have I1:Inv X pins σ H { s with heap:=h' }:=I.turned (t':=s.toks) (λb o hb e=>(sb.2 b hb).trans e) f0 f1 f3 f4 f5;obtain⟨o,e,c,d⟩:=id jw;exact⟨u,rfl,rq (s:={ s with heap:=h' }) e c d (by decide) ⟨x,H,I1,ru,⟨rfl,λys hy=>by rw[I.qP hy hq];exact hx⟩,jw,λb hb=>(hf b hb).1⟩⟩
 done:=by intro X hP hw hK hc i pins s σ H E I hf st hg;subst hP hw hK;obtain⟨xs,hq,hx⟩:=hg;obtain⟨ai,rv,p,hz⟩:=I.list hq;obtain⟨f0,f1,f2,f3,f4,f5⟩:=hf it (by simp);have hl:=rv.length;exact wpAny_pyNext_list_end (I.ok.hd hc) st p.isList (by simp;omega) λh' eb=>⟨rfl,I.turned (t':=s.toks) (λb o hb e=>eb b o hb e) f0 f1 f3 f4 f5⟩
 self:=λ_ _ _ _ _ st h=>wpAny_pyIter_listiter st h
theorem Aw {P:Program}{w:World}{K:Fg}{tg:Expr}(a it:Addr):Turn P w K tg (Lp K a) [it] it (λi h=>h.IsTupleIter it a i) where
 mem:=by simp
 obj:=λi h st b hb=>by
  have e:b=it:=by simpa using hb
  subst e;obtain⟨o,e,c,d⟩:=st;exact⟨o,e,λv z=>by rw[d] at z;cases z⟩
 keep:=λi h h' st k=>st.at λo e=>k it (by simp) o e
 item:=by intro X hP hw hK hc i pins s σ H E I hf st hg;subst hP hw hK;obtain⟨xs,x,hq,hx⟩:=hg;obtain⟨ai,rv,p,hz⟩:=I.tuple hq;obtain⟨u,hu,ru⟩:=rv.get hx;obtain⟨f0,f1,f2,f3,f4,f5⟩:=hf it (by simp);refine wpAny_pyNext_tuple_item st (show s.heap.IsTuple a ai.toArray from p) (x:=u) (by simpa using hu) λh' jw sb=>?_;have I1:Inv X pins σ H { s with heap:=h' }:=I.turned (t':=s.toks) (λb o hb e=>(sb.2 b hb).trans e) f0 f1 f3 f4 f5;obtain⟨o,e,c,d⟩:=id jw;exact⟨u,rfl,rq (s:={ s with heap:=h' }) e c d (by decide) ⟨x,H,I1,ru,⟨rfl,λys hy=>by rw[I.uk hy hq];exact hx⟩,jw,λb hb=>(hf b hb).1⟩⟩
 done:=by intro X hP hw hK hc i pins s σ H E I hf st hg;subst hP hw hK;obtain⟨xs,hq,hx⟩:=hg;obtain⟨ai,rv,p,hz⟩:=I.tuple hq;obtain⟨f0,f1,f2,f3,f4,f5⟩:=hf it (by simp);have hl:=rv.length;exact wpAny_pyNext_tuple_end (I.ok.hd hc) st (show s.heap.IsTuple a ai.toArray from p) (by simp;omega) λh' eb=>⟨rfl,I.turned (t':=s.toks) (λb o hb e=>eb b o hb e) f0 f1 f3 f4 f5⟩
 self:=λ_ _ _ _ _ st h=>wpAny_pyIter_tupleiter st h
theorem Ax {P:Program}{w:World}{K:Fg}{tg:Expr}(it:Addr)(lo:Int)(n:Nat):Turn P w K tg (GQ lo n) [it] it (λi h=>IsRangeIter h it (lo+(i:Nat)*1) ((n:Int)-(i:Nat)) 1) where
 mem:=by simp
 obj:=λi h st b hb=>by
  have e:b=it:=by simpa using hb
  subst e;exact⟨_,st,λv z=>by have z':Data.fields _=Data.cell v:=z;cases z'⟩
 keep:=λi h h' st k=>k it (by simp) _ st
 item:=by intro X hP hw hK hc i pins s σ H E I hf st hg;subst hP hw hK;obtain⟨f0,f1,f2,f3,f4,f5⟩:=hf it (by simp);have W:=Walks.range (prog:=X.prog) (w:=X.w) (I.ok.hd hc) it lo 1 n;refine W.item i s _ _ hg st λv h' tk hv jw kk=>?_;obtain⟨t,rfl⟩:=hv;have I1:Inv X pins σ H { s with heap:=h',toks:=tk }:=I.turned (λb o hb e=>kk b o (by simpa using hb) e) f0 f1 f3 f4 f5;refine⟨_,rfl,rq (s:={ s with heap:=h',toks:=tk }) (n:="range_iterator") jw rfl rfl (by decide) ⟨.int (lo+i),H,I1,⟨t,?_⟩,⟨rfl,rfl⟩,jw,λb hb=>(hf b hb).1⟩⟩;rw[Int.mul_one]
 done:=by intro X hP hw hK hc i pins s σ H E I hf st hg;subst hP hw hK;obtain⟨f0,f1,f2,f3,f4,f5⟩:=hf it (by simp);exact wpAny_pyNext_range_end (I.ok.hd hc) st (by have:n<=i:=hg;omega) λh' eb=>⟨rfl,I.turned (t':=s.toks) (λb o hb e=>eb b o hb e) f0 f1 f3 f4 f5⟩
 self:=λ_ _ _ _ _ st h=>wpAny_pyIter_rangeiter st h
section
variable {X:Cx}{tg:Expr}
theorem ET {pins:List (Addr×Obj)}{σ:St}{H:Hp}{s:Sh}{R:It->Hp->Prop}{E:Value->Sh->Prop}{lo hi:Int}{t u v:Tok}{tk:Nat}(I:Inv X pins σ H s)(h1:-(2 ^ 62)<=lo)(h2:lo<2 ^ 62)(h3:-(2 ^ 62)<=hi)(h4:hi<2 ^ 62)
 (q:R (GQ lo (hi-lo).toNat) H):wpAny (model X.prog X.w) X.A (pyIter (.ref s.heap.objs.size)) (OL X pins σ tg R) E { s with heap:=s.heap.push { cls:=.type "range",data:=.fields #[.int lo t,.int hi u,.int 1 v] },toks:=tk }:=by
 refine wpAny_pyIter_range (IsRange.new ..) (small_one h1 h2 h3 h4) ?_;have I1:Inv X pins σ H { s with heap:=s.heap.push { cls:=.type "range",data:=.fields #[.int lo t,.int hi u,.int 1 v] },toks:=tk }:=I.kept λb o e=>Heap.get?_push_of_some _ e;refine⟨(s.heap.push { cls:=.type "range",data:=.fields #[.int lo t,.int hi u,.int 1 v] }).objs.size,[(s.heap.push { cls:=.type "range",data:=.fields #[.int lo t,.int hi u,.int 1 v] }).objs.size],_,_,H,rfl,
  I1.kept (t':=tk) λb o e=>Heap.get?_push_of_some _ e,Ax _ lo (hi-lo).toNat,?_,λb hb=>?_,q⟩
 .have e1:lo+((0:Nat):Int)*1=lo:=by simp
  have e2:(((hi-lo).toNat:Nat):Int)-((0:Nat):Int)=Builtin.Range.rangeSize lo hi 1:=by rw[rangeSize_one];split<;>omega
  show IsRangeIter _ _ (lo+((0:Nat):Int)*1) ((((hi-lo).toNat:Nat):Int)-((0:Nat):Int)) 1;rw[e1,e2];exact Heap.get?_push_size _ rfl
 .have e:b=(s.heap.push { cls:=.type "range",data:=.fields #[.int lo t,.int hi u,.int 1 v] }).objs.size:=by simpa using hb
  subst e;exact I1.mv (Nat.le_refl _) (I1.aq.fresh (Nat.le_refl _))
def Aj (ta:TA):TI:=λσ H R=>ta σ H λvs H1=>∃j:Int,vs=[.int j]/\-(2 ^ 62)<=j/\j<2 ^ 62/\R (GQ 0 j.toNat) H1
theorem uj {a:Expr}{ta:TA}{p pos:Pos}(hg:Gl X "range")(hm:X.mg "range" = none)(ha:PA X [a] ta)(hs:starEach [a] X.env=[(false,eval a X.env)]:=by rfl):PI X tg (.Call (.Name "range" p) [a] [] pos) (Aj ta):=by
 intro pins s σ H R I h;refine Call_ (nQ I hg hm boot_range (PyProof.Rows.callWith_type1 (aQ (ha pos pins s σ H _ I h) λus s1 ⟨vs,H1,I1,r1,q1⟩=>?_) hs rfl));obtain⟨j,e,q1,q2,q⟩:=q1;subst e;cases r1 with
 | cons r rr=>cases rr;obtain⟨t,rfl⟩:=r;exact call_range_1 (ET I1 (by omega) (by omega) q1 q2 (by simpa using q))
def Py (wi:TI)(g:TG)(tb:TS):TS:=λD σ H=>wi σ H λJ H1=>∃W:Nat->Nat->St->Hp->Prop,(∃m,W 0 m σ H1)/\∀i m σ H,W i m σ H ->
 (J.stop i H/\D.nx σ H)\/(J.go i H/\∃N:St->Hp->Prop,(∀σ' H',N σ' H'->∃m',m'<m/\W (i+1) m' σ' H')/\∀x H',J.xW i H x H'->g x σ H' λσ2 H2=>tb { D with nx:=N,ct:=N,bk:=D.nx } σ2 H2)
def lb (fp:List Addr)(h:Heap):List (Addr×Obj):=fp.filterMap λb=>(h.get? b).map λo=>(b,o)
theorem jC {fp:List Addr}{h:Heap}{b:Addr}{o:Obj}(hb:b∈fp)(e:h.get? b=some o):(b,o)∈lb fp h:=List.mem_filterMap.mpr ⟨b,hb,by rw[e];rfl⟩
theorem uf {fp:List Addr}{h:Heap}{p:Addr×Obj}(hp:p∈lb fp h):p.1∈fp/\h.get? p.1=some p.2:=by
 obtain⟨b,hb,e⟩:=List.mem_filterMap.mp hp;cases q:h.get? b with
 | none=>rw[q] at e;cases e
 | some o=>rw[q] at e;have e':(b,o)=p:=Option.some.inj e;subst e';exact⟨hb,q⟩
theorem Inv.pinned {pins:List (Addr×Obj)}{σ:St}{H:Hp}{s:Sh}{fp:List Addr}(I:Inv X pins σ H s)(hf:∀b∈fp,eM X pins H b)(ho:∀b∈fp,∃o,s.heap.get? b=some o/\∀v,o.data ≠ .cell v):Inv X (pins++lb fp s.heap) σ H s:=
 I.oE λp hp=>(List.mem_append.mp hp).elim (λz=>I.pin p (List.mem_append_right _ z)) λz=>by obtain⟨hb,e⟩:=uf z;obtain⟨f0,f1,f2,_⟩:=hf p.1 hb;obtain⟨o,e',d⟩:=ho p.1 hb;rw[e] at e';cases e';exact⟨e,f0,f1,f2,d⟩
theorem Inv.fU {pins pl:List (Addr×Obj)}{σ:St}{H:Hp}{s:Sh}(I:Inv X (pins++pl) σ H s):Inv X pins σ H s:=I.oE λp hp=>I.pin p (List.mem_append_right _ (List.mem_append_left _ hp))
theorem n6 {iter:Expr}{body:List Stmt}{wi:TI}{g:TG}{tb:TS}{pos:Pos}(hp:PassesOwn (model X.prog X.w) X.A X.env X.xe)(hc:X.calm=true)(hi:PI X tg iter wi)(hg:PG X tg g)(hb:iC X body tb)
 (hs:∀x,foldedSetIterable iter X.env x=pure x:=by intro _;rfl):PS X (.For tg iter body [] pos) (Py wi g tb):=by
 intro pins s σ H D I h;refine wpAny_For (aQ (hi pins s σ H _ I h) λv s1 h1=>aQ h1 λitv s2 h2=>?_) hs;obtain⟨it,fp,tn,J,H2,e,I2,T,DR,f2,W,⟨m0,w0⟩,turn⟩:=h2;subst e;have qR:∀{H':Hp},(∀b∈fp,H' b=none)->∀b∈fp,eM X pins H' b:=λhn b hb=>⟨hn b hb,(f2 b hb).2⟩;refine codeAny_forLoop_any (λn s'=>∃i σ' H',Inv X pins σ' H' s'/\tn i s'.heap/\(∀b∈fp,H' b=none)/\W i n σ' H') ?_ m0 ⟨0,σ,H2,I2,DR,λb hb=>(f2 b hb).1,w0⟩;rintro n s3 ⟨i,σ3,H3,I3,DS,mV,w3⟩;rcases turn i n σ3 H3 w3 with⟨stop,qn⟩|⟨go,N,hN,step⟩
 .refine wpAny_passesOwn hp (aQ (T.done X rfl rfl rfl hc i pins s3 σ3 H3 X.xe I3 (qR mV) DS stop) λr s4 ⟨hr,I4⟩=>?_);subst hr;exact wpAny_execs_nil ⟨σ3,H3,I4,qn⟩
 .refine wpAny_passesOwn hp (aQ (T.item X rfl rfl rfl hc i pins s3 σ3 H3 X.xe I3 (qR mV) DS go) λr s4 ⟨u,hr,h4⟩=>?_);subst hr;refine wpAny_passesOwn hp (aQ h4 λ_ s5 ⟨x,H5,I5,r5,y5,xX,zY⟩=>?_);have I5':=I5.pinned (qR zY) (T.obj _ _ xX);refine wpAny_passesOwn hp (aQ (hg _ s5 σ3 H5 x u _ I5' r5 (step x H5 y5)) λ_ s6 ⟨σ6,H6,I6,q6⟩=>?_);refine wpAny_passesOwn hp (aQ (hb _ s6 σ6 H6 _ I6 q6) λf s7 q7=>?_);have again:∀{σ7:St} {H7:Hp},Inv X (pins++lb fp s5.heap) σ7 H7 s7->N σ7 H7->∃m,m<n/\∃i σ' H',Inv X pins σ' H' s7/\tn i s7.heap/\(∀b∈fp,H' b=none)/\W i m σ' H':=λ{σ7 H7} I7 n7=>by obtain⟨m',hm,w7⟩:=hN σ7 H7 n7;refine⟨m',hm,i+1,σ7,H7,I7.fU,T.keep _ _ _ xX λb hb o e=>(I7.pin (b,o) (List.mem_append_right _ (List.mem_append_right _ (jC hb e)))).1,λb hb=>?_,w7⟩;obtain⟨o,e,d⟩:=T.obj _ _ xX b hb;exact(I7.pin (b,o) (List.mem_append_right _ (List.mem_append_right _ (jC hb e)))).2.1
  cases f with
  | next=>obtain⟨σ7,H7,I7,n7⟩:=q7;exact again I7 n7
  | cont=>obtain⟨σ7,H7,I7,n7⟩:=q7;exact again I7 n7
  | brk=>obtain⟨σ7,H7,I7,q7⟩:=q7;exact⟨σ7,H7,I7.fU,q7⟩
  | ret v=>obtain⟨x7,σ7,H7,I7,r7,q7⟩:=q7;exact⟨x7,σ7,H7,I7.fU,r7,q7⟩
end
abbrev R2:=V->V->Hp->VK->Prop
def bS (X:Cx)(f:Value->Value->Sem Value)(r:R2):Prop:=
 ∀(pins:List (Addr×Obj)) (s:Sh) (σ:St) (H:Hp) (x y:V) (v u:Value) (Q:VK),Inv X pins σ H s->RelV x v->RelV y u->r x y H Q ->
  wpAny (model X.prog X.w) X.A (f v u) (EP X pins σ Q) X.xe s
def Kp (X:Cx)(f:Value->Sem Value)(r:V->Hp->VK->Prop):Prop:=
 ∀(pins:List (Addr×Obj)) (s:Sh) (σ:St) (H:Hp) (x:V) (v:Value) (Q:VK),Inv X pins σ H s->RelV x v->r x H Q ->
  wpAny (model X.prog X.w) X.A (f v) (EP X pins σ Q) X.xe s
def dt (X:Cx)(f:Value)(r:List V->Hp->VK->Prop):Prop:=
 ∀(pins:List (Addr×Obj)) (s:Sh) (σ:St) (H:Hp) (xs:List V) (us:List Value) (Q:VK),Inv X pins σ H s->Vals xs us->r xs H Q ->
  wpAny (model X.prog X.w) X.A (call f us) (EP X pins σ Q) X.xe s
def O3 (X:Cx)(r:V->Hp->(Bool->Hp->Prop)->Prop):Prop:=
 ∀(pins:List (Addr×Obj)) (s:Sh) (σ:St) (H:Hp) (x:V) (v:Value) (Q:Bool->Hp->Prop),Inv X pins σ H s->RelV x v->r x H Q ->
  wpAny (model X.prog X.w) X.A (truthy v) (TP X pins σ Q) X.xe s
def C8 (r:R2)(ta tb:TE):TE:=λσ H Q=>ta σ H λx H1=>tb σ H1 λy H2=>r x y H2 Q
def PU (r:V->Hp->VK->Prop)(ta:TE):TE:=λσ H Q=>ta σ H λx H1=>r x H1 Q
def rI (C:Int->Int->Prop)(g:Int->Int->V):R2:=λx y H Q=>∃i j,x = .int i/\y = .int j/\C i j/\Q (g i j) H
def pT (g:Int->Int->V):R2:=λx y H Q=>∃i j,x = .int i/\y = .int j/\Q (g i j) H
def rU (g:Int->V):V->Hp->VK->Prop:=λx H Q=>∃i,x = .int i/\Q (g i) H
section
variable {X:Cx}{a b c:Expr}{ta tb tc:TE}{pos:Pos}
theorem Gr (ha:PE X a ta)(hb:PE X b tb){pins:List (Addr×Obj)}{s:Sh}{σ:St}{H:Hp}{R:V->V->Hp->Prop}(I:Inv X pins σ H s)
 (h:ta σ H λx H1=>tb σ H1 λy H2=>R x y H2) {Q:Value->Sh->Prop} {f:Value->Value->Sem Value}
 (hf:∀v u s2 x y H2,Inv X pins σ H2 s2->RelV x v->RelV y u->R x y H2->wpAny (model X.prog X.w) X.A (f v u) Q X.xe s2):
 wpAny (model X.prog X.w) X.A (eval a X.env) (λv s₁=>wpAny (model X.prog X.w) X.A (eval b X.env) (λu s₂=>wpAny (model X.prog X.w) X.A (f v u) Q X.xe s₂) X.xe s₁) X.xe s:=by
 refine aQ (ha pins s σ H _ I h) λv s1 ⟨x,H1,I1,r1,q1⟩=>?_;refine aQ (hb pins s1 σ H1 _ I1 q1) λu s2 ⟨y,H2,I2,r2,q2⟩=>?_;exact hf v u s2 x y H2 I2 r1 r2 q2
theorem NW {op:Operator}{r:R2}(ho:bS X (binaryOp op) r)(ha:PE X a ta)(hb:PE X b tb):PE X (.BinOp a op b pos) (C8 r ta tb):=by intro pins s σ H Q I h;exact wpAny_BinOp (Gr ha hb I h λv u s2 x y H2 I2 rx ry q=>ho pins s2 σ H2 x y v u Q I2 rx ry q)
theorem AQ {op:UnaryOp}{r:V->Hp->VK->Prop}(ho:Kp X (unaryOp op) r)(ha:PE X a ta):PE X (.UnaryOp op a pos) (PU r ta):=by intro pins s σ H Q I h;exact UnaryOp_ (aQ (ha pins s σ H _ I h) λv s1 ⟨x,H1,I1,r1,q1⟩=>ho pins s1 σ H1 x v Q I1 r1 q1)
theorem GY {f:Value->Value->Sem Value}{C:Int->Int->Prop}{g:Int->Int->Int}
 (rule:∀(i j:Int) (t u:Tok) (s:Sh) (Q:Value->Sh->Prop) (E:Value->Sh->Prop),C i j->Q (.int (g i j) s.toks) { s with toks:=s.toks+1 }->wpAny (model X.prog X.w) X.A (f (.int i t) (.int j u)) Q E s):
 bS X f (rI C λi j=>.int (g i j)):=by
 intro pins s σ H x y v u Q I rx ry h;obtain⟨i,j,rfl,rfl,hc,q⟩:=h;obtain⟨t,rfl⟩:=rx;obtain⟨t',rfl⟩:=ry;exact rule i j t t' s _ _ hc ⟨.int (g i j),H,I.tok _,⟨_,rfl⟩,q⟩
theorem MD {f:Value->Value->Sem Value}{g:Int->Int->Int}
 (rule:∀(i j:Int) (t u:Tok) (s:Sh) (Q:Value->Sh->Prop) (E:Value->Sh->Prop),Q (.int (g i j) s.toks) { s with toks:=s.toks+1 }->wpAny (model X.prog X.w) X.A (f (.int i t) (.int j u)) Q E s):
 bS X f (pT λi j=>.int (g i j)):=by
 intro pins s σ H x y v u Q I rx ry h;obtain⟨i,j,rfl,rfl,q⟩:=h;obtain⟨t,rfl⟩:=rx;obtain⟨t',rfl⟩:=ry;exact rule i j t t' s _ _ ⟨.int (g i j),H,I.tok _,⟨_,rfl⟩,q⟩
theorem Bf {f:Value->Value->Sem Value}{g:Int->Int->Bool}
 (rule:∀(i j:Int) (t u:Tok) (s:Sh) (Q:Value->Sh->Prop) (E:Value->Sh->Prop),Q (.bool (g i j)) s->wpAny (model X.prog X.w) X.A (f (.int i t) (.int j u)) Q E s):
 bS X f (pT λi j=>.bl (g i j)):=by
 intro pins s σ H x y v u Q I rx ry h;obtain⟨i,j,rfl,rfl,q⟩:=h;obtain⟨t,rfl⟩:=rx;obtain⟨t',rfl⟩:=ry;exact rule i j t t' s _ _ ⟨.bl (g i j),H,I,rfl,q⟩
def La (i j:Int):Prop:=0<=j/\j<=1000000/\i.natAbs<2 ^ 64
theorem Lq:bS X (binaryOp .Add) (pT λi j=>.int (i+j)):=MD λ_ _ _ _ _ _ _ q=>add_int q
theorem Kx:bS X (binaryOp .Sub) (pT λi j=>.int (i-j)):=MD λ_ _ _ _ _ _ _ q=>sub_int q
theorem nq:bS X (binaryOp .Mod) (rI (λ_ j=>0<j) λi j=>.int (i%j)):=GY λi j _ _ _ _ _ hc q=>by have h1:(0:Int)<j:=hc;exact mod_int' (by omega) (by rw[Int.fmod_eq_emod_of_nonneg i (by omega)];exact q)
theorem Km:bS X (binaryOp .Pow) (rI La λi j=>.int (i ^ j.toNat)):=GY λ_ _ _ _ _ _ _ hc q=>pow_int_small hc.1 hc.2.1 hc.2.2 q
theorem Qd {f:Value->Sem Value}{g:Int->Int}
 (rule:∀(i:Int) (t:Tok) (s:Sh) (Q:Value->Sh->Prop) (E:Value->Sh->Prop),Q (.int (g i) s.toks) { s with toks:=s.toks+1 }->wpAny (model X.prog X.w) X.A (f (.int i t)) Q E s):
 Kp X f (rU λi=>.int (g i)):=by
 intro pins s σ H x v Q I rx h;obtain⟨i,rfl,q⟩:=h;obtain⟨t,rfl⟩:=rx;exact rule i t s _ _ ⟨.int (g i),H,I.tok _,⟨_,rfl⟩,q⟩
theorem wW:Kp X (unaryOp .USub) (rU λi=>.int (-i)):=Qd λ_ _ _ _ _ q=>neg_int q
end
section
variable {X:Cx}{a b c:Expr}{ta tb tc:TE}{pos:Pos}
theorem wQ {pins:List (Addr×Obj)}{σ:St}{H:Hp}{s:Sh}{Q:VK}{k k':Bool}(I:Inv X pins σ H s)(q:Q (.bl k) H)(e:k=k'):EP X pins σ Q (.bool k') s:=by subst e;exact⟨.bl k,H,I,rfl,q⟩
theorem Oi:bS X (compareOp .Lt) (pT λi j=>.bl (decide (i<j))):=Bf λ_ _ _ _ _ _ _ q=>lt_int q
theorem NA:bS X (compareOp .LtE) (pT λi j=>.bl (decide (i<=j))):=Bf λ_ _ _ _ _ _ _ q=>le_int q
theorem Of:bS X (compareOp .Gt) (pT λi j=>.bl (decide (j<i))):=Bf λ_ _ _ _ _ _ _ q=>gt_int q
theorem NC:bS X (compareOp .GtE) (pT λi j=>.bl (decide (j<=i))):=Bf λ_ _ _ _ _ _ _ q=>ge_int q
theorem BL:bS X (compareOp .In) (λx y H Q=>∃i j,x = .str i/\y = .str j/\Q (.bl (!(Builtin.Str.occurrences j i 0 j.length 1).isEmpty)) H):=by intro pins s σ H x y v u Q I rx ry h;obtain⟨i,j,rfl,rfl,q⟩:=h;obtain⟨t,rfl⟩:=rx;obtain⟨t',rfl⟩:=ry;exact in_str (wQ I q rfl)
theorem K4:bS X (compareOp .Is) (λx y H Q=>y = .aj/\Q (.bl (decide (x = .aj))) H):=by
 intro pins s σ H x y v u Q I rx ry h;obtain⟨rfl,q⟩:=h;cases ry;refine is_none_gen (wQ I q ?_);cases x<;>first
  | (cases rx;rfl)
  | (obtain⟨t,rfl⟩:=rx;rfl)
theorem Iw:bS X (compareOp .IsNot) (λx y H Q=>y = .aj/\Q (.bl (!decide (x = .aj))) H):=by
 intro pins s σ H x y v u Q I rx ry h;obtain⟨rfl,q⟩:=h;cases ry;refine isnot_none_gen (wQ I q ?_);cases x<;>first
  | (cases rx;rfl)
  | (obtain⟨t,rfl⟩:=rx;rfl)
theorem bS.or {f:Value->Value->Sem Value}{r r':R2}(h:bS X f r)(h':bS X f r'):bS X f (λx y H Q=>r x y H Q\/r' x y H Q):=by
 intro pins s σ H x y v u Q I rx ry q;rcases q with q | q
 .exact h pins s σ H x y v u Q I rx ry q
 .exact h' pins s σ H x y v u Q I rx ry q
theorem Jc {op:CmpOp}{r:R2}(ho:bS X (compareOp op) r)(ha:PE X a ta)(hb:PE X b tb)(hm:behindInMarks op b=false):PE X (.Compare a [op] [b] pos) (C8 r ta tb):=by intro pins s σ H Q I h;exact wpAny_Compare1 (Gr ha hb I h λv u s2 x y H2 I2 rx ry q=>ho pins s2 σ H2 x y v u Q I2 rx ry q) hm
def Hl (t:TE):TT:=λσ H Q=>t σ H λx H'=>∃k,x = .bl k/\Q k H'
theorem IA {op:CmpOp}{r:R2}(ho:bS X (compareOp op) r)(ha:PE X a ta)(hb:PE X b tb)(hm:behindInMarks op b=false):PT X (.Compare a [op] [b] pos) (Hl (C8 r ta tb)):=by
 intro pins s σ H Q I h;refine wpAny_isTrue_Compare1 (aQ (ha pins s σ H _ I h) λv s1 ⟨x,H1,I1,r1,q1⟩=>aQ (hb pins s1 σ H1 _ I1 q1) λu s2 ⟨y,H2,I2,r2,q2⟩=>
  aQ (ho pins s2 σ H2 x y v u _ I2 r1 r2 q2) λc s3 ⟨z,H3,I3,r3,k,e,q3⟩=>?_) hm
 subst e;cases r3;exact wpAny_truthy_bool ⟨H3,I3,q3⟩
def wH (r r':R2)(ta tb tc:TE):TE:=λσ H Q=>ta σ H λx H1=>tb σ H1 λy H2=>r x y H2 λz H3=>∃k,z = .bl k /\
 (if k=true then tc σ H3 λw' H4=>r' y w' H4 Q else Q (.bl false) H3)
theorem Gq {op xY:CmpOp}{r r':R2}(ho:bS X (compareOp op) r)(ho':bS X (compareOp xY) r')(ha:PE X a ta)(hb:PE X b tb)(hc:PE X c tc)
 (hm:lastMarks [op,xY] [b,c]=false:=by with_unfolding_all rfl):PE X (.Compare a [op,xY] [b,c] pos) (wH r r' ta tb tc):=by
 intro pins s σ H Q I h;refine Compare_chain (aQ (ha pins s σ H _ I h) λv s1 ⟨x,H1,I1,r1,q1⟩=>chain_link (aQ (hb pins s1 σ H1 _ I1 q1) λu s2 ⟨y,H2,I2,r2,q2⟩=>
  aQ (ho pins s2 σ H2 x y v u _ I2 r1 r2 q2) λd s3 ⟨z,H3,I3,r3,k,e,q3⟩=>?_)) hm
 subst e;cases r3;refine wpAny_truthy_bool ?_;cases k with
 | false=>exact ite_ff ⟨.bl false,H3,I3,rfl,q3⟩
 | true=>exact ite_tt (chain_last (aQ (hc pins s3 σ H3 _ I3 q3) λw' s4 ⟨z',H4,I4,r4,q4⟩=>ho' pins s4 σ H4 y z' u w' Q I4 r2 r4 q4))
theorem Fc {op xY:CmpOp}{r r':R2}(ho:bS X (compareOp op) r)(ho':bS X (compareOp xY) r')(ha:PE X a ta)(hb:PE X b tb)(hc:PE X c tc)
 (hm:lastMarks [op,xY] [b,c]=false:=by with_unfolding_all rfl):PT X (.Compare a [op,xY] [b,c] pos) (Hl (wH r r' ta tb tc)):=by
 intro pins s σ H Q I h;refine isTrue_chain (aQ (ha pins s σ H _ I h) λv s1 ⟨x,H1,I1,r1,q1⟩=>test_link (aQ (hb pins s1 σ H1 _ I1 q1) λu s2 ⟨y,H2,I2,r2,q2⟩=>
  aQ (ho pins s2 σ H2 x y v u _ I2 r1 r2 q2) λd s3 ⟨z,H3,I3,r3,k,e,q3⟩=>?_)) hm
 subst e;cases r3;refine wpAny_truthy_bool ?_;cases k with
 | false=>obtain⟨k',e',q'⟩:=q3;cases e';exact ite_ff ⟨H3,I3,q'⟩
 | true=>refine ite_tt (test_last (aQ (hc pins s3 σ H3 _ I3 q3) λw' s4 ⟨z',H4,I4,r4,q4⟩=>aQ (ho' pins s4 σ H4 y z' u w' _ I4 r2 r4 q4) λd' s5 ⟨z2,H5,I5,r5,k2,e2,q5⟩=>?_));subst e2;cases r5;exact wpAny_truthy_bool ⟨H5,I5,q5⟩
def Fv (K:Fg)(x:V)(H:Hp)(k:Bool):Prop:=
 match x with
 | .aj=>k=false
 | .bl b=>k=b
 | .int i=>k=(i != 0)
 | .str y=>y.length<=sizeLine/\k=((y.length:Int) != 0)
 | .p9 y=>y.size<=sizeLine/\k=((y.size:Int) != 0)
 | .ref p=>(∃xs,cm K H p xs/\k = !xs.isEmpty)\/(∃xs,cy K H p xs/\k = !xs.isEmpty)\/∃af,H p=some (.dK af)/\k = !af.isEmpty
 | _=>False
theorem Ag {κ:Type}{af:List (κ×V)}{vs:List (κ×Value)}(r:KV af vs):(!vs.isEmpty) = !af.isEmpty:=by cases r<;>rfl
theorem sA {xs:List V}{ai:List Value}(r:Vals xs ai):(!ai.toArray.isEmpty) = !xs.isEmpty:=by cases r<;>simp
theorem nz:(sizeLine:Nat)<2 ^ 63:=by rw[sizeLine_eq];decide
theorem Mz:O3 X (λx H Q=>∃k,Fv X.K x H k/\Q k H):=by
 intro pins s σ H x v Q I rx h;obtain⟨k,e,q⟩:=h;have hl:=nz;have hs:sizeLine=16777216:=sizeLine_eq;cases x with
 | aj=>cases rx;have e':k=false:=e;subst e';exact truthy_none ⟨H,I,q⟩
 | bl b=>cases rx;have e':k=b:=e;subst e';exact wpAny_truthy_bool ⟨H,I,q⟩
 | int i=>obtain⟨t,rfl⟩:=rx;have e':k=(i != 0):=e;subst e';exact PySem.P.truthy_int ⟨H,I,q⟩
 | str y=>obtain⟨t,rfl⟩:=rx;obtain⟨hy,e'⟩:y.length<=sizeLine/\k=((y.length:Int) != 0):=e;subst e';exact PySem.P.truthy_str (by omega) ⟨H,I.tok _,q⟩
 | p9 y=>obtain⟨t,rfl⟩:=rx;obtain⟨hy,e'⟩:y.size<=sizeLine/\k=((y.size:Int) != 0):=e;subst e';exact W.truthy_bytes (by omega) ⟨H,I.tok _,q⟩
 | ref p=>
  cases rx;have e':(∃xs,cm X.K H p xs/\k = !xs.isEmpty)\/(∃xs,cy X.K H p xs/\k = !xs.isEmpty)\/∃af,H p=some (.dK af)/\k = !af.isEmpty:=e;rcases e' with⟨xs,hx,e'⟩|⟨xs,hx,e'⟩|⟨af,hx,e'⟩
  .subst e';obtain⟨ai,r,pl,hz⟩:=I.list hx;have hlen:=r.length;exact wpAny_truthy_list pl.isList (by simp only[List.size_toArray];omega) ⟨H,I.tok _,by rw[sA r];exact q⟩
  .subst e';obtain⟨ai,r,pl,hz⟩:=I.tuple hx;have hlen:=r.length;exact truthy_tuple pl (by simp only[List.size_toArray];omega) ⟨H,I.tok _,by rw[sA r];exact q⟩
  .subst e';obtain⟨hz,hS,vs,r,m⟩:af.length<=sizeLine/\(p==sysModules)=false/\∃vs,KV af vs/\s.heap.DictOf (aV X.prog X.w) p vs:=I.aq p _ hx;have hlen:af.length=vs.length:=Paired.length r;exact wpAny_truthy_dict hS m (by omega) ⟨H,I.tok _,by rw[Ag r];exact q⟩
 | _=>exact(show False from e).elim
theorem E5 (ha:PE X a ta)(he:∀whole,isTrue a X.env whole=(do let v <-whole;standAt a.pos;holding [v] (truthy v))):
 PT X a (λσ H Q=>ta σ H λx H'=>∃k,Fv X.K x H' k/\Q k H'):=by
 intro pins s σ H Q I h;exact isTrue_plain (aQ (ha pins s σ H _ I h) λv s1 ⟨x,H1,I1,r1,q1⟩=>Mz pins s1 σ H1 x v Q I1 r1 q1) (he _)
theorem vals1 {x:V}{us:List Value}(r:Vals [x] us):∃u,us=[u]/\RelV x u:=by
 cases r with
 | cons r1 r2=>cases r2;exact⟨_,rfl,r1⟩
theorem vals2 {x y:V}{us:List Value}(r:Vals [x,y] us):∃u w',us=[u,w']/\RelV x u/\RelV y w':=by
 cases r with
 | cons r1 r2=>
  cases r2 with
  | cons r3 r4=>cases r4;exact⟨_,_,rfl,r1,r3⟩
theorem C4 (hc:X.calm=true):dt X (.builtin "max") (λxs H Q=>∃i j,xs=[.int i,.int j]/\Q (.int (if j > i then j else i)) H):=by
 intro pins s σ H xs us Q I r h;obtain⟨i,j,rfl,q⟩:=h;obtain⟨u,w',rfl,⟨t,rfl⟩,⟨t',rfl⟩⟩:=vals2 r;refine max_two_ints (I.ok.hd hc) λh' tk k=>⟨_,H,I.kept k,?_,q⟩
 by_cases hj:j > i
 .rw[if_pos hj,if_pos hj];exact⟨_,rfl⟩
 .rw[if_neg hj,if_neg hj];exact⟨_,rfl⟩
theorem CU (hc:X.calm=true):dt X (.builtin "min") (λxs H Q=>∃i j,xs=[.int i,.int j]/\Q (.int (if j<i then j else i)) H):=by
 intro pins s σ H xs us Q I r h;obtain⟨i,j,rfl,q⟩:=h;obtain⟨u,w',rfl,⟨t,rfl⟩,⟨t',rfl⟩⟩:=vals2 r;refine min_two_ints (I.ok.hd hc) λh' tk k=>⟨_,H,I.kept k,?_,q⟩
 by_cases hj:j<i
 .rw[if_pos hj,if_pos hj];exact⟨_,rfl⟩
 .rw[if_neg hj,if_neg hj];exact⟨_,rfl⟩
def MR (K:Fg)(x:V)(H:Hp)(n:Nat):Prop:=
 match x with
 | .str y=>y.length<=sizeLine/\n=y.length
 | .p9 y=>y.size<=sizeLine/\n=y.size
 | .ref p=>(∃xs,cm K H p xs/\n=xs.length)\/∃xs,cy K H p xs/\n=xs.length
 | _=>False
theorem F5:dt X (.builtin "len") (λxs H Q=>∃x n,xs=[x]/\MR X.K x H n/\Q (.int n) H):=by
 intro pins s σ H xs us Q I r h;obtain⟨x,n,rfl,e,q⟩:=h;obtain⟨u,rfl,rx⟩:=vals1 r;have hl:=nz;have hs:sizeLine=16777216:=sizeLine_eq;cases x with
 | str y=>obtain⟨t,rfl⟩:=rx;obtain⟨hy,e'⟩:y.length<=sizeLine/\n=y.length:=e;subst e';exact len_str (by omega) ⟨.int _,H,I.tok _,⟨_,rfl⟩,q⟩
 | p9 y=>obtain⟨t,rfl⟩:=rx;obtain⟨hy,e'⟩:y.size<=sizeLine/\n=y.size:=e;subst e';exact W.len_bytes (by omega) ⟨.int _,H,I.tok _,⟨_,rfl⟩,q⟩
 | ref p=>
  cases rx;have e':(∃xs,cm X.K H p xs/\n=xs.length)\/∃xs,cy X.K H p xs/\n=xs.length:=e;rcases e' with⟨xs,hx,e'⟩|⟨xs,hx,e'⟩
  .subst e';obtain⟨ai,r',pl,hz⟩:=I.list hx;have hlen:=r'.length;exact Calls.call_len_list pl.isList (by simp only[List.size_toArray];omega) ⟨.int xs.length,H,I.tok _,⟨_,by simp only[List.size_toArray];rw[hlen]⟩,q⟩
  .subst e';obtain⟨ai,r',pl,hz⟩:=I.tuple hx;have hlen:=r'.length;exact len_tuple pl (by simp only[List.size_toArray];omega) ⟨.int xs.length,H,I.tok _,⟨_,by simp only[List.size_toArray];rw[hlen]⟩,q⟩
 | _=>exact(show False from e).elim
end
structure qu (h:Heap)(x dx C:Addr)(mA:Str->Option Value):Prop where
 obj:h.get? x=some (W.instObj C dx)
 ns:h.Ns1 dx mA
 ne:dx≠x
theorem CB {h:Heap}{dx:Addr}{mA:Str->Option Value}(n:h.Ns1 dx mA):∃od,h.get? dx=some od/\∀name,W.lookIn name od=some (mA name):=by
 obtain⟨o,es,ep,ho,hd,hk,_,hm⟩:=n;refine⟨o,ho,λname=>?_⟩;have e:=hm name;unfold nsFind findBy at e;rw[<-Array.find?_toList] at e;unfold W.lookIn;rw[hd];dsimp only;split
 .rename_i y q;rw[q] at e;exact congrArg some e
 .rename_i q;rw[q] at e;have a:es.toList.any (·.refKey)=false:=by rw[List.any_eq_false];intro y hy;obtain⟨z,t,By⟩:=hk y (Array.mem_toList_iff.mp hy);simp[DictEntry.refKey,By]
  have a':¬es.toList.any (·.refKey)=true:=by rw[a];exact Bool.false_ne_true
  rw[if_neg a'];exact congrArg some e
theorem qu.look {h:Heap}{x dx C:Addr}{mA:Str->Option Value}(I:qu h x dx C mA):∃od,W.InstAt h x (W.instObj C dx) C (some od)/\∀name,W.lookIn name od=some (mA name):=
 let ⟨od,ho,hl⟩:=CB I.ns
 ⟨od,⟨I.obj,rfl,rfl,ho⟩,hl⟩
section
variable {prog:Program}{w:World}{A:Around}{E:Value->Sh->Prop}{s:Sh}{K:Fg}{x dx C f:Addr}{mA:Str->Option Value}{name:Str}{v:Value}
theorem get_map {expr:Bool}{Q:Value->Sh->Prop}(X:K.In s.heap)(I:qu s.heap x dx C mA)(hg:W.plainGet K C name=true)(hh:W.hasDictIn K C=true)
 (ha:W.findIn K (.ref C) name=some none) (hv:mA name=some v) (hv':W.handedIn v=true) (h:Q v { s with toks:=s.toks+1 }):
 wpAny (model prog w) A (getAttr (.ref x) name expr) Q E s:=by
 obtain⟨od,J,hl⟩:=I.look;exact W.get_value X J (W.plainGet_of hg).1 (W.findObj_own hh ha rfl (by rw[hl,hv])) hv' h
theorem FV {pl:Sem Bool}{Q:Value×List Value->Sh->Prop}(X:K.In s.heap)(I:qu s.heap x dx C mA)(hg:W.plainGet K C name=true)
 (hf:W.findIn K (.ref C) name=some (some (.ref f))) (ht:W.isFn K (.ref f)=true) (hv:mA name=none) (h:Q (.ref f,[.ref x]) s):
 wpAny (model prog w) A (getMethod (.ref x) name pl) Q E s:=by
 obtain⟨od,J,hl⟩:=I.look;exact W.method_fn X J (W.plainGet_of hg).1 (W.plainGet_of hg).2 hf (beq_iff_eq.mp ht) (by show (W.lookIn name od).map (·.isSome)=some false;rw[hl,hv];rfl) h
theorem Jj {ns:List Str}{Q:Unit->Sh->Prop}(X:K.In s.heap)(I:qu s.heap x dx C mA)
 (hs:W.findIn K (.ref C) "__setattr__" = some (some (.builtin "object.__setattr__"))) (hp:W.plainOver K C=true) (ht:W.takerIn K C name=some none) (hh:W.hasDictIn K C=true)
 (hw:PySem.Within mA ns) (hsz:ns.length<=sizeLine)
 (h:∀h',qu h' x dx C (λy=>if y=name then some v else mA y)->Heap.SameBut dx s.heap h'->Q () { s with heap:=h',toks:=s.toks+2 }):
 wpAny (model prog w) A (setAttr (.ref x) name v) Q E s:=by
 obtain⟨od,J,hl⟩:=I.look;refine W.set_plain X J hs (W.osa_open (s:={ s with toks:=s.toks+1 }) (r:=none) X J hp ht λb=>?_);obtain⟨cd,hc,iD⟩:=W.any_some hh;have hx:s.heap.get? x=some ⟨.ref C,some dx,.plain,#[]⟩:=I.obj;refine wpAny_bind (wpAny_pure (wpAny_bind (wpAny_bind (wpAny_loadPart hx (wpAny_bind (W.Looks.here (s:={ s with toks:=s.toks+1 }) (W.looks_clsIn X hc) ?_))))));rw[iD];refine wpAny_pure (a:=some dx) (wpAny_bind (wpAny_pure (wpAny_bind ?_)));refine wpAny_nsSet1 (s:={ s with toks:=s.toks+1 }) I.ns λh' hn2 sJ=>?_;obtain⟨oD,esD,epD,hoD,hdD,hcD⟩:=hn2.count (PySem.Within.cons name v hw);refine wpAny_bind (wpAny_lookBehind hoD (by rw[hdD];exact pastItsLine_dict (Nat.le_trans hcD (by rw[List.length_cons];omega))) ?_);exact wpAny_pure (h _ ⟨(sJ.2 _ (Ne.symm I.ne)).trans I.obj,hn2,I.ne⟩ sJ)
theorem vX {R:Result->Sh->Prop}{vs:List Value}{kw:List (Str×Value)}(X:K.In s.heap)(hm:W.makesIn K C=true)
 (hi:W.findIn K (.ref C) "__init__" = some (some (.ref f))) (hf:W.typeIn K (.ref f)=some (.type "function"))
 (h:codeAny (model prog w) (A.under (.builtin "type.__call__" ⟨.ref C::vs,kw⟩)) (.call (.ref f) ⟨.ref (s.heap.objs.size+1)::vs,kw⟩) (W.InitBack (s.heap.objs.size+1) R)
   { s with heap:=(s.heap.push W.emptyDict).push (W.instObj C s.heap.objs.size) }):
 codeAny (model prog w) A (.call (.ref C) ⟨vs,kw⟩) R s:=by
 obtain⟨hh,g,d,t,os⟩:=s;exact W.make_core (W.makes_of X hm) (W.looks_findIn X hi) (λself=>W.bind_fn X self hf) (.inl rfl) h
end
def fu (f:Str)(v:V):List (Str×V)->List (Str×V)
 | []=>[(f,v)]
 | (g,x)::r=>if g=f then (g,v)::r else (g,x)::fu f v r
theorem pR (f g:Str)(v:V):∀fs:List (Str×V),(fu f v fs).lookup g=if g=f then some v else fs.lookup g
 | []=>by
  show List.lookup g [(f,v)]=_
  by_cases h:g=f
  .have hb:(g==f)=true:=beq_iff_eq.mpr h;simp only[List.lookup,hb,if_pos h]
  .have hb:(g==f)=false:=beq_eq_false_iff_ne.mpr h;simp only[List.lookup,hb,if_neg h]
 | (k,x)::r=>by
  have ih:=pR f g v r;rw[show fu f v ((k,x)::r)=(if k=f then (k,v)::r else (k,x)::fu f v r) from rfl]
  by_cases hk:k=f
  .rw[if_pos hk]
   by_cases h:g=k
   .have hb:(g==k)=true:=beq_iff_eq.mpr h;simp only[List.lookup,hb,if_pos (h.trans hk)]
   .have hb:(g==k)=false:=beq_eq_false_iff_ne.mpr h;simp only[List.lookup,hb,if_neg (λe:g=f=>h (e.trans hk.symm))]
  .rw[if_neg hk]
   by_cases h:g=k
   .have hb:(g==k)=true:=beq_iff_eq.mpr h;simp only[List.lookup,hb,if_neg (λe:g=f=>hk (h.symm.trans e))]
   .have hb:(g==k)=false:=beq_eq_false_iff_ne.mpr h;simp only[List.lookup,hb];exact ih
theorem n9 (f:Str)(v:V):∀fs:List (Str×V),f∈(fu f v fs).map (·.1)/\∀g,g∈fs.map (·.1)->g∈(fu f v fs).map (·.1)
 | []=>⟨by simp[fu],λg h=>by simp at h⟩
 | (k,x)::r=>by
  obtain⟨i1,i2⟩:=n9 f v r;rw[show fu f v ((k,x)::r)=(if k=f then (k,v)::r else (k,x)::fu f v r) from rfl]
  by_cases hk:k=f
  .rw[if_pos hk];subst hk;exact⟨by simp,λg h=>by simpa using h⟩
  .rw[if_neg hk];refine⟨?_,λg h=>?_⟩
   .rw[List.map_cons];exact List.mem_cons_of_mem _ i1
   .rw[List.map_cons] at h ⊢;rcases List.mem_cons.mp h with e | e
    .exact List.mem_cons.mpr (.inl e)
    .exact List.mem_cons_of_mem _ (i2 g e)
theorem p6 (f:Str)(v:V):∀fs:List (Str×V),(fu f v fs).length<=fs.length+1
 | []=>by simp[fu]
 | (k,x)::r=>by
  have ih:=p6 f v r;rw[show fu f v ((k,x)::r)=(if k=f then (k,v)::r else (k,x)::fu f v r) from rfl]
  by_cases hk:k=f
  .rw[if_pos hk,List.length_cons,List.length_cons];omega
  .rw[if_neg hk,List.length_cons,List.length_cons];omega
theorem fK.some_of {v:V}{o:Option Value}(r:fK (some v) o):∃u,o=some u/\RelV v u:=by
 cases o with
 | none=>exact(show False from r).elim
 | some u=>exact⟨u,rfl,r⟩
theorem fK.none_of {o:Option Value}(r:fK none o):o=none:=by
 cases o with
 | none=>rfl
 | some u=>exact(show False from r).elim
theorem Dc {v:V}{u:Value}(r:RelV v u):W.handedIn u=true:=by
 cases v with
 | aj=>cases (show u=Value.none from r);rfl
 | bl b=>cases (show u=Value.bool b from r);rfl
 | int i=>obtain⟨t,e⟩:=(show ∃t,u=Value.int i t from r);cases e;rfl
 | str x=>obtain⟨t,e⟩:=(show ∃t,u=Value.str x t from r);cases e;rfl
 | p9 b=>obtain⟨t,e⟩:=(show ∃t,u=Value.bytes b t from r);cases e;rfl
 | sH b=>obtain⟨t,e⟩:=(show ∃t,u=Value.float b t from r);cases e;rfl
 | ref a=>cases (show u=Value.ref a from r);rfl
 | ty n=>cases (show u=Value.type n from r);rfl
section
variable {P:Program}{w:World}{H H':Hp}{h h':Heap}{a C dx:Addr}{fs fs':List (Str×V)}
theorem pk (aq:aT P w H h)(e:H a=some (.ins C dx fs)):∃mA,qu h a dx C mA/\(∀f,fK (fs.lookup f) (mA f))/\PySem.Within mA (fs.map (·.1))/\fs.length<=1000/\H dx=some (.own a):=by obtain⟨d,z,ne,ob,mA,n,r,q⟩:=(show aX P w H h a (.ins C dx fs) from aq a _ e);exact⟨mA,⟨ob,n,ne⟩,r,q,z,d⟩
end
structure gH (K:Fg)(C:Addr):Prop where
 pg:W.plainGet K C Str.empty=true
 hd:W.hasDictIn K C=true
 po:W.plainOver K C=true
 sa:W.findIn K (.ref C) "__setattr__" = some (some (.builtin "object.__setattr__"))
theorem gH.get {K:Fg}{C:Addr}(c:gH K C)(f:Str):W.plainGet K C f=true:=c.pg
def hV (K:Fg)(C:Addr)(f:Str):Prop:=W.findIn K (.ref C) f=some none
theorem hV.NI {K:Fg}{C:Addr}{f:Str}(n:hV K C f):W.takerIn K C f=some none:=by unfold W.takerIn;rw[show W.findIn K (.ref C) f=some none from n];rfl
structure Meth (K:Fg)(C:Addr)(m:Str)(f:Addr):Prop where
 at_:W.findIn K (.ref C) m=some (some (.ref f))
 fn:W.isFn K (.ref f)=true
 kp:W.keepIn K (.ref f)=true
section
variable {X:Cx}{pins:List (Addr×Obj)}{σ:St}{H:Hp}{s:Sh}{a C dx:Addr}{fs:List (Str×V)}{f:Str}{v:V}{A:Around}{E:Value->Sh->Prop}
theorem Bd {b:Bool}{Q:Value->Sh->Prop}(I:Inv X pins σ H s)(e:H a=some (.ins C dx fs))(c:gH X.K C)(n:hV X.K C f)(l:fs.lookup f=some v)
 (h:∀u s',Inv X pins σ H s'->RelV v u->Q u s'):wpAny (model X.prog X.w) A (getAttr (.ref a) f b) Q E s:=by
 obtain⟨mA,O,r,_,_,_⟩:=pk I.aq e;obtain⟨u,hu,ru⟩:=fK.some_of (v:=v) (o:=mA f) (by rw[<-l];exact r f);exact get_map I.d8 O (c.get f) c.hd n hu (Dc ru) (h u _ (I.tok _) ru)
theorem sG {m:Str}{g:Addr}{pl:Sem Bool}{Q:Value×List Value->Sh->Prop}(I:Inv X pins σ H s)(e:H a=some (.ins C dx fs))(c:gH X.K C)(k:Meth X.K C m g)(l:fs.lookup m=none)
 (h:Q (.ref g,[.ref a]) s):wpAny (model X.prog X.w) A (getMethod (.ref a) m pl) Q E s:=by
 obtain⟨mA,O,r,_,_,_⟩:=pk I.aq e;have hn:mA m=none:=fK.none_of (by rw[<-l];exact r m);exact FV I.d8 O (c.get m) k.at_ k.fn hn h
theorem AG {y:V}{u:Value}{Q:Unit->Sh->Prop}(I:Inv X pins σ H s)(e:H a=some (.ins C dx fs))(c:gH X.K C)(n:hV X.K C f)(hl:fs.length<1000)(ry:RelV y u)
 (h:∀s',Inv X pins σ (upd H a (.ins C dx (fu f y fs))) s'->Q () s'):wpAny (model X.prog X.w) A (setAttr (.ref a) f u) Q E s:=by
 obtain⟨mA,O,r,wi,_,ho⟩:=pk I.aq e;have hz:(fs.map (·.1)).length<=sizeLine:=by rw[List.length_map,sizeLine_eq];omega
 refine Jj I.d8 O c.sa c.po n.NI c.hd wi hz λh' O' sb=>h _ ?_;have hd:∃o,h'.get? dx=some o:=let ⟨o,_,_,e',_⟩:=O'.ns;⟨o,e'⟩
 refine I.write (x:=a) (e:=dx) (by rw[e];exact True.intro) (.inr ho) (λb q hb z=>(sb.2 b hb).trans z) hd ?_;refine⟨by rw[ax O.ne];exact ho,?_,O.ne,O'.obj,_,O'.ns,λg=>?_,λg hg=>?_⟩
 .have:=p6 f y fs;omega
 .show fK ((fu f y fs).lookup g) (if g=f then some u else mA g);rw[pR]
  by_cases q:g=f
  .rw[if_pos q,if_pos q];exact ry
  .rw[if_neg q,if_neg q];exact r g
 .by_cases q:g=f
  .rw[q];exact(n9 f y fs).1
  .refine(n9 f y fs).2 g (wi g λz=>hg ?_);show (if g=f then some u else mA g)=none;rw[if_neg q];exact z
theorem Inv.made (I:Inv X pins σ H s):Inv X pins σ (upd (upd H s.heap.objs.size (.own (s.heap.objs.size+1))) (s.heap.objs.size+1) (.ins C s.heap.objs.size []))
 { s with heap:=(s.heap.push W.emptyDict).push (W.instObj C s.heap.objs.size) }:=by
 have e1:(s.heap.push W.emptyDict).get? s.heap.objs.size=some W.emptyDict:=Heap.get?_push_size s.heap rfl;have e2:((s.heap.push W.emptyDict).push (W.instObj C s.heap.objs.size)).get? (s.heap.objs.size+1)=some (W.instObj C s.heap.objs.size):=by
  have:=Heap.get?_push_size (s.heap.push W.emptyDict) (o:=W.instObj C s.heap.objs.size) rfl
  rwa [Heap.size_push] at this
 have e3:(s.heap.push W.emptyDict).Ns s.heap.objs.size (λ_=>none):=⟨W.emptyDict,#[],_,e1,rfl,(λe he=>absurd he (by simp)),λ_=>rfl⟩;have I1:=I.laid (a:=s.heap.objs.size) (o:=.own (s.heap.objs.size+1)) (h':=s.heap.push W.emptyDict) (t':=s.toks) (λb u q=>Heap.get?_push_of_some _ q) (Nat.le_refl _) ⟨_,e1⟩;refine I1.laid (a:=s.heap.objs.size+1) (o:=.ins C s.heap.objs.size []) (t':=s.toks) (λb u q=>Heap.get?_push_of_some _ q) (Nat.le_of_eq (Heap.size_push _ _)) ?_;have ne:s.heap.objs.size≠s.heap.objs.size+1:=Nat.ne_of_lt (Nat.lt_succ_self _);refine⟨by rw[ax ne,aA],Nat.zero_le _,ne,e2,λ_=>none,(Heap.Ns1.of_empty e3).at λo q=>Heap.get?_push_of_some _ q,λ_=>True.intro,λy hy=>absurd rfl hy⟩
theorem IW {prog:Program}{w:World}{env:Env}{e:Expr}{f:Str}{pos:Pos}{s:Sh}{Q:Value->Sh->Prop}(hb:attributeBase e f env (eval e env)=eval e env)
 (h:wpAny (model prog w) A (eval e env) (λo s₁=>wpAny (model prog w) A (getAttr o f true) Q E s₁) E s):wpAny (model prog w) A (eval (.Attribute e f pos) env) Q E s:=
 Attribute_any_ h (by rw[arm_eval_Attribute,hb])
end
def O5 (K:Fg)(ta:TE)(f:Str):TE:=λσ H Q=>ta σ H λx H1=>∃a C dx fs v,x = .ref a/\H1 a=some (.ins C dx fs)/\gH K C/\hV K C f/\fs.lookup f=some v/\Q v H1
def Pn (K:Fg)(ta tv:TE)(f:Str):TS:=λD σ H=>tv σ H λy H1=>ta σ H1 λx H2=>∃a C dx fs,x = .ref a/\H2 a=some (.ins C dx fs)/\gH K C/\hV K C f/\fs.length<1000 /\
 D.nx σ (upd H2 a (.ins C dx (fu f y fs)))
section
variable {X:Cx}{o e value:Expr}{f:Str}{pos pos' Bz:Pos}{ta tv:TE}
theorem KL (he:PE X e ta)(hb:attributeBase e f X.env (eval e X.env)=eval e X.env):PE X (.Attribute e f pos) (O5 X.K ta f):=by intro pins s σ H Q I h;refine IW hb (aQ (he pins s σ H _ I h) λu s1 ⟨x,H1,I1,rx,a,C,dx,fs,v,ex,ea,c,n,l,q⟩=>?_);subst ex;obtain rfl:u=Value.ref a:=rx;exact Bd I1 ea c n l λu' s2 I2 ru=>⟨v,H1,I2,ru,q⟩
theorem Mf (ha:PE X o ta)(hv:PE X value tv)(hs:swapsWith value (some (.Attribute o f pos')) pos.line X.env=pure false):PS X (.Assign [.Attribute o f pos'] value pos) (Pn X.K ta tv f):=by intro pins s σ H D I h;refine plainObj_wpAny_Assign_Attribute (aQ (hv pins s σ H _ I h) λu s1 ⟨y,H1,I1,ry,q⟩=>aQ (ha pins s1 σ H1 _ I1 q) λov s2 ⟨x,H2,I2,rx,a,C,dx,fs,ex,ea,c,n,l,q2⟩=>?_) hs;subst ex;obtain rfl:ov=Value.ref a:=rx;exact AG I2 ea c n l ry λs3 I3=>⟨σ,_,I3,q2⟩
end
section
variable {X:Cx}{pins:List (Addr×Obj)}{σ:St}{H:Hp}{s:Sh}{A:Around}{E:Value->Sh->Prop}{Q:Value->Sh->Prop}{c:Value}{b:Bool}
inductive hJ (K:Fg) (H:Hp):V->Value->Prop where
 | aj:hJ K H .aj (.type "NoneType")
 | bl (x:Bool):hJ K H (.bl x) (.type "bool")
 | int (i:Int):hJ K H (.int i) (.type "int")
 | str (x:Str):hJ K H (.str x) (.type "str")
 | sH (x:UInt64):hJ K H (.sH x) (.type "float")
 | lst {a:Addr} {xs:List V} (e:H a=some (.lst xs)):hJ K H (.ref a) (.type "list")
 | bR {a:Addr} {o:Obj} {xs:List V} (e:H a=some (.bR o (.lst xs))):hJ K H (.ref a) (.type "list")
 | tup {a:Addr} {xs:List V} (e:H a=some (.tup xs)):hJ K H (.ref a) (.type "tuple")
 | dK {a:Addr} {af:List (Key×V)} (e:H a=some (.dK af)):hJ K H (.ref a) (.type "dict")
 | dT {a:Addr} {af:List (List Key×V)} (e:H a=some (.dT af)):hJ K H (.ref a) (.type "dict")
 | ins {a C dx:Addr} {fs:List (Str×V)} (e:H a=some (.ins C dx fs)) (cl:gH K C) (ha:W.findIn K (.ref C) "__class__" = some (some (.builtin "object.__class__")))
  (hn:W.specialIn K (.builtin "object.__class__") "__get__" = some (some (.builtin "getset_descriptor.__get__"))) (htk:W.takesIn K (.builtin "object.__class__")=some true)
  (hm:W.mroIn K C (.type "object")=some true):hJ K H (.ref a) (.ref C)
theorem B9 {x:V}{u t:Value}(I:Inv X pins σ H s)(rx:RelV x u)(ty:hJ X.K H x t)(e:W.kitOne X.K t c=some b)(h:∀tk,Q (.bool b) { s with toks:=tk }):
 wpAny (model X.prog X.w) A (call (.builtin "isinstance") [u,c]) Q E s:=by
 cases ty with
 | aj=>cases (show u=Value.none from rx);exact W.kia_one W.kitx_none I.d8 True.intro e (λz=>nomatch z) h
 | bl y=>cases (show u=Value.bool y from rx);exact W.kia_one W.kitx_bool I.d8 True.intro e (λz=>nomatch z) h
 | int i=>obtain⟨t,q⟩:=(show ∃t,u=Value.int i t from rx);cases q;exact W.kia_one W.kitx_int I.d8 True.intro e (λz=>nomatch z) h
 | str y=>obtain⟨t,q⟩:=(show ∃t,u=Value.str y t from rx);cases q;exact W.kia_one W.kitx_str I.d8 True.intro e (λz=>nomatch z) h
 | sH y=>obtain⟨t,q⟩:=(show ∃t,u=Value.float y t from rx);cases q;exact W.kia_one W.kitx_float I.d8 True.intro e (λz=>nomatch z) h
 | @lst a xs ea=>cases (show u=Value.ref a from rx);obtain⟨_,_,n,_,h1⟩:=(show aX X.prog X.w H s.heap a (.lst xs) from I.aq a _ ea);exact W.kia_one W.kitx_list I.d8 ⟨_,h1,rfl⟩ e (λz=>nomatch z) h
 | @bR a ob xs ea=>cases (show u=Value.ref a from rx);obtain⟨_,_,_,n,_,h1⟩:=(show aX X.prog X.w H s.heap a (.bR ob (.lst xs)) from I.aq a _ ea);exact W.kia_one W.kitx_list I.d8 ⟨_,h1,rfl⟩ e (λz=>nomatch z) h
 | @tup a xs ea=>cases (show u=Value.ref a from rx);obtain⟨_,_,_,p⟩:=(show aX X.prog X.w H s.heap a (.tup xs) from I.aq a _ ea);obtain⟨o,h1,h2,_⟩:=p;exact W.kia_one W.kitx_tuple I.d8 ⟨o,h1,h2⟩ e (λz=>nomatch z) h
 | @dK a af ea=>cases (show u=Value.ref a from rx);obtain⟨_,_,vs,_,p⟩:=(show aX X.prog X.w H s.heap a (.dK af) from I.aq a _ ea);obtain⟨o,es,ep,h1,h2,_⟩:=p;exact W.kia_one W.kitx_dict I.d8 ⟨o,h1,h2.1⟩ e (λz=>nomatch z) h
 | @dT a af ea=>cases (show u=Value.ref a from rx);obtain⟨_,_,xs,_,o,es,ep,h1,h2,_⟩:=(show aX X.prog X.w H s.heap a (.dT af) from I.aq a _ ea);exact W.kia_one W.kitx_dict I.d8 ⟨o,h1,h2.1⟩ e (λz=>nomatch z) h
 | @ins a C dx fs ea cl ha hn htk hm=>cases (show u=Value.ref a from rx);obtain⟨mA,O,_⟩:=pk I.aq ea;obtain⟨od,J,_⟩:=O.look;exact W.kia_one (W.kitx_own (cl.get _) cl.hd ha hn htk hm) I.d8 J e (λz=>nomatch z) h
end
structure cO (k:Nat)(A:Around):Prop where
 hd:A.handled=none
 dp:A.depth+3*k+5<recursionLimit
 un:A.units+16*k+200<cLine
theorem cO.mono {j k:Nat}{A:Around}(r:cO k A)(h:j<=k):cO j A:=⟨r.hd,by have:=r.dp;omega,by have:=r.un;omega⟩
theorem cO.deeper {k:Nat}{A:Around}(r:cO (k+1) A)(env:Env):cO k (A.deeper env):=
 ⟨r.hd,by have:=r.dp;show A.depth+1+3*k+5<_;omega,by have:=r.un;show A.units+3+16*k+200<_;omega⟩
theorem AI {A:Around}{C:Addr}{us:List Value}{kw:List (Str×Value)}:(A.under (.builtin "type.__call__" ⟨.ref C::us,kw⟩)).depth=A.depth+1:=by
 first | rfl | simp[Around.under,Code.weight,Code.isCreation,Code.isGuard,Code.isCaller,Code.frames,Code.isFrame,guardIds]
theorem Bp {A:Around}{C:Addr}{us:List Value}{kw:List (Str×Value)}:(A.under (.builtin "type.__call__" ⟨.ref C::us,kw⟩)).units=A.units+1:=by
 first | rfl | simp[Around.under,Code.cUnits,Code.frames,Code.isFrame]
theorem cO.make {k:Nat}{A:Around}(r:cO (k+1) A)(C:Addr)(us:List Value)(kw:List (Str×Value)):cO k (A.under (.builtin "type.__call__" ⟨.ref C::us,kw⟩)):=
 ⟨r.hd,by have:=r.dp;rw[AI];omega,by have:=r.un;rw[Bp];omega⟩
theorem cO.depth {k:Nat}{A:Around}(r:cO k A):A.depth<recursionLimit:=by have:=r.dp;omega
theorem cO.units {k:Nat}{A:Around}(r:cO k A):A.units+64<cLine:=by have:=r.un;omega
def lX:TA:=λ_ H Q=>Q [] H
def pq (ta:TE)(tr:TA):TA:=λσ H Q=>ta σ H λx H1=>tr σ H1 λxs H2=>Q (x::xs) H2
section
variable {X:Cx}{e:Expr}{es:List Expr}{te:TE}{t:TA}{pos:Pos}
theorem gF:PA X [] lX:=λ_ _ _ _ H Q I h=>Calls.spliced_nil ⟨[],H,I,.nil,h⟩
theorem dQ (ha:PE X e te)(hr:PA X es t)(hs:starEach (e::es) X.env=(false,eval e X.env)::starEach es X.env:=by rfl):PA X (e::es) (pq te t):=by intro pos pins s σ H Q I h;rw[hs];show wpAny _ _ (spliced ((false,eval e X.env)::backTo pos (starEach es X.env))) _ _ s;refine Calls.spliced_cons (aQ (ha pins s σ H _ I h) λu s1 ⟨x,H1,I1,r1,q1⟩=>?_);exact aQ (hr pos pins s1 σ H1 _ I1 q1) λus s2 ⟨xs,H2,I2,r2,q2⟩=>⟨x::xs,H2,I2,.cons r1 r2,q2⟩
def Pb (t:TA):TE:=λσ H Q=>t σ H λxs H1=>xs.length<=sizeLine/\∀p,H1 p=none->Q (.ref p) (upd H1 p (.tup xs))
def OS (t:TA):TE:=λσ H Q=>t σ H λxs H1=>xs.length<=sizeLine/\∀p,H1 p=none->Q (.ref p) (upd H1 p (.lst xs))
theorem DF {x1}(h:PA X es t):PE X (.Tuple es x1 pos) (Pb t):=by intro pins s σ H Q I hq;refine wpAny_Tuple_spliced (aQ (h pos pins s σ H _ I hq) λus s1 ⟨xs,H1,I1,r,z,q⟩=>⟨by rw[<-r.length];exact z,?_⟩);have hf:H1 s1.heap.objs.size=none:=I1.aq.fresh (Nat.le_refl _);refine⟨.ref s1.heap.objs.size,upd H1 s1.heap.objs.size (.tup xs),I1.laid (t':=s1.toks) (λb u e=>Heap.get?_push_of_some _ e) (Nat.le_refl _) ?_,rfl,q _ hf⟩;exact⟨z,us,r,⟨_,Heap.get?_push_size _ rfl,rfl,_,rfl⟩⟩
theorem L9 (h:PA X es t):PE X (.List es pos) (OS t):=by intro pins s σ H Q I hq;refine wpAny_List_spliced (aQ (h pos pins s σ H _ I hq) λus s1 ⟨xs,H1,I1,r,z,q⟩=>⟨by rw[<-r.length];exact z,?_⟩);have hf:H1 s1.heap.objs.size=none:=I1.aq.fresh (Nat.le_refl _);refine⟨.ref s1.heap.objs.size,upd H1 s1.heap.objs.size (.lst xs),I1.laid (t':=s1.toks) (λb u e=>Heap.get?_push_of_some _ e) (Nat.le_refl _) ?_,rfl,q _ hf⟩;exact⟨z,us,0,r,Heap.get?_push_size _ rfl⟩
end
abbrev Sp:=List V->Hp->VK->XK->Prop
abbrev kL:=List Env->Hp->Sh->XK->Value->Sh->Prop
structure qA (P:Program)(w:World)(K:Fg)(mg:Str->Option Value)(base:Heap)(A:Around)(outer:List Env)(s:Sh)(H:Hp):Prop where
 frames:A.frames=some outer
 mod:Mod K mg base
 bs:∀b o,base.get? b=some o->s.heap.get? b=some o/\H b=none
 qb:base.objs.size<=s.heap.objs.size
 eg:s.heap.FunFrames base outer
 uS:∀b∈lO outer,H b=none
 aq:aT P w H s.heap
 bare:AllBare s.gens
def CE (outer:List Env)(P:Program)(w:World)(H:Hp)(s:Sh)(Q:VK)(u:Value)(s':Sh):Prop:=
 ∃v H',s'.os=s.os/\AllBare s'.gens/\Un (lO outer) [] H H' s.heap s'.heap/\aT P w H' s'.heap/\RelV v u/\Q v H'
def CR (CX:kL)(outer:List Env)(P:Program)(w:World)(H:Hp)(s:Sh)(Q:VK)(E:XK)(r:Result)(s':Sh):Prop:=
 match r with
 | .ok (.ret u)=>CE outer P w H s Q u s'
 | .ok _=>False
 | .error e=>CX outer H s E e s'
structure dE (P:Program)(w:World)(K:Fg)(mg:Str->Option Value)(base:Heap)(CX:kL)(k:Nat)(f:Addr)(fd:FuncData)(ps:List Str)(sp:Sp):Prop where
 len:∀vs H Q E,sp vs H Q E->vs.length=ps.length
 run:∀(A:Around) (outer:List Env) (s:Sh) (H:Hp) (args:Args) (us:List Value) (vs:List V) (Q:VK) (E:XK),cO k A->qA P w K mg base A outer s H->BindsTo s fd args (ps.zip us)->Vals vs us->sp vs H Q E ->
  codeAny (model P w) A (.call (.ref f) args) (CR CX outer P w H s Q E) s
theorem dE.imp {P:Program}{w:World}{K:Fg}{mg:Str->Option Value}{base:Heap}{CX:kL}{k:Nat}{f:Addr}{fd:FuncData}{ps:List Str}{sp sp':Sp}(F:dE P w K mg base CX k f fd ps sp)
 (h:∀vs H Q E,sp' vs H Q E->sp vs H Q E):dE P w K mg base CX k f fd ps sp':=
 ⟨λvs H Q E q=>F.len vs H Q E (h _ _ _ _ q),λA outer s H args us vs Q E hr he hb hv hs=>F.run A outer s H args us vs Q E hr he hb hv (h _ _ _ _ hs)⟩
theorem qA.make {P:Program}{w:World}{K:Fg}{mg:Str->Option Value}{base:Heap}{A:Around}{outer:List Env}{s:Sh}{H:Hp}(e:qA P w K mg base A outer s H)(C:Addr)(us:List Value)(kw:List (Str×Value)):
 qA P w K mg base (A.under (.builtin "type.__call__" ⟨.ref C::us,kw⟩)) outer s H:=⟨by first | exact e.frames | (simpa[Around.under,Code.envs,Code.isFrame,pushEnvs] using e.frames),e.mod,e.bs,e.qb,e.eg,e.uS,e.aq,e.bare⟩
section
variable {X:Cx}{pins:List (Addr×Obj)}{σ:St}{H:Hp}{s s':Sh}
theorem Inv.jR (I:Inv X pins σ H s):qA X.prog X.w X.K X.mg X.base X.A X.stack s H:=
 ⟨I.ok.frames,I.ok.mod,I.bs,Nat.le_trans I.ok.qb I.sz,I.stack,I.zU,I.aq,I.bare⟩
theorem Inv.after {Q:VK}{u:Value}(I:Inv X pins σ H s)(h:CE X.stack X.prog X.w H s Q u s'):EP X pins σ Q u s':=by obtain⟨v,H',os,bare,un,aq,r,q⟩:=h;obtain⟨hh,g,d,t,os'⟩:=s';obtain rfl:os'=s.os:=os;exact⟨v,H',I.call (h':=hh) (g':=g) (d':=d) (t':=t) (ch:=[]) un aq bare (λb z=>absurd z (by simp)),r,q⟩
end
def Hq (sp:Sp)(fw:List V)(E:XK)(t:TA):TE:=λσ H Q=>t σ H λvs H1=>sp (vs++fw) H1 Q E
def An (C:Addr)(m:Str)(sp:Sp)(fw:List V)(E:XK)(ta:TE)(t:TA):TE:=λσ H Q=>ta σ H λx H1=>∃a dx fs,x = .ref a/\H1 a=some (.ins C dx fs)/\fs.lookup m=none /\
 t σ H1 λvs H2=>sp (x::(vs++fw)) H2 Q E
def Bw (C:Addr)(sp:Sp)(fw:List V)(E:XK)(t:TA):TE:=λσ H Q=>t σ H λvs H1=>∀x dx,H1 x=none->H1 dx=none->dx≠x ->
 sp (.ref x::(vs++fw)) (upd (upd H1 dx (.own x)) x (.ins C dx [])) (λv H2=>v = .aj/\Q (.ref x) H2) E
def Binds (K:Fg)(fd:FuncData)(ps:List Str)(ds:List Value):Prop:=
 ∀(s:Sh) (us:List Value),K.In s.heap->(us++ds).length=ps.length->BindsTo s fd ⟨us,[]⟩ (ps.zip (us++ds))
theorem Binds.all {K:Fg}{fd:FuncData}{ps:List Str}(h:∀us:List Value,us.length=ps.length->bindArgs fd ⟨us,[]⟩=pure (ps.zip us)):Binds K fd ps []:=λs us _ hl=>by rw[List.append_nil] at hl ⊢;exact .of_eq (h us hl)
def Passes (CX:kL)(X:Cx)(E:XK):Prop:=∀(pins:List (Addr×Obj)) (σ:St) (H:Hp) (s:Sh) (e:Value) (s':Sh),Inv X pins σ H s->CX X.stack H s E e s'->X.xe e s'
section
variable {X:Cx}{CX:kL}{k:Nat}{f C:Addr}{fd:FuncData}{ps:List Str}{sp:Sp}{fw:List V}{ds:List Value}{E:XK}{x m:Str}{p pos apos:Pos}{e o:Expr}{es:List Expr}{ta:TE}{t:TA}
theorem si {pins:List (Addr×Obj)}{σ:St}{H:Hp}{s:Sh}{Q:VK}{us:List Value}{vs:List V}(F:dE X.prog X.w X.K X.mg X.base CX k f fd ps sp)(hr:cO k X.A)(hb:Binds X.K fd ps ds)(hd:Vals fw ds)(hx:Passes CX X E)
 (I:Inv X pins σ H s) (r:Vals vs us) (h:sp (vs++fw) H Q E):wpAny (model X.prog X.w) X.A (call (.ref f) us) (EP X pins σ Q) X.xe s:=by
 have r2:Vals (vs++fw) (us++ds):=r.append hd;have hl:(us++ds).length=ps.length:=by rw[<-r2.length];exact F.len _ _ _ _ h
 refine wpAny_call (codeAny_mono (F.run X.A X.stack s H ⟨us,[]⟩ (us++ds) (vs++fw) Q E hr I.jR (hb s us I.d8 hl) r2 h) λr s' hq=>?_);cases r with
 | error e=>exact hx pins σ H s e s' I hq
 | ok fl=>
  cases fl with
  | ret u=>exact I.after hq
  | next=>exact False.elim hq
  | brk=>exact False.elim hq
  | cont=>exact False.elim hq
theorem Ie (F:dE X.prog X.w X.K X.mg X.base CX k f fd ps sp)(hr:cO k X.A)(hg:Gl X x)(hm:X.mg x=some (.ref f))(hk:W.keepIn X.K (.ref f)=true)(hb:Binds X.K fd ps ds)(hd:Vals fw ds)(hx:Passes CX X E)
 (ha:PA X (e::es) t) (lR:(x==("__debug__":Str))=false:=by decide) (he:starEach (e::es) X.env=(false,eval e X.env)::starEach es X.env:=by rfl) (jn:(backTo pos (starEach es X.env)).any (·.1)=false:=by rfl):
 PE X (.Call (.Name x p) (e::es) [] pos) (Hq sp fw E t):=by
 intro pins s σ H Q I h;refine wpAny_Call_Name_kw (jL I hg hm ?_ lR);refine W.callWith_K (h₀:=X.base) I.ok.mod.jm hk (aQ (ha pos pins s σ H _ I h) λus s1 ⟨vs,H1,I1,r,q⟩=>⟨I1.d8,?_⟩) he jn;exact si F hr hb hd hx I1 r q
theorem FN (F:dE X.prog X.w X.K X.mg X.base CX k f fd ps sp)(hr:cO k X.A)(hg:Gl X x)(hm:X.mg x=some (.ref f))(hk:W.keepIn X.K (.ref f)=true)(hb:Binds X.K fd ps ds)(hd:Vals fw ds)(hx:Passes CX X E)
 (lR:(x==("__debug__":Str))=false:=by decide):PE X (.Call (.Name x p) [] [] pos) (Hq sp fw E lX):=by
 intro pins s σ H Q I h;refine wpAny_Call_Name_kw (jL I hg hm ?_ lR);exact W.callWith_K0 I.d8 hk (si (us:=[]) F hr hb hd hx I .nil h)
theorem J6 {pl:Sem Bool}(he:PE X o ta)(c:gH X.K C)(hm:Meth X.K C m f)(F:dE X.prog X.w X.K X.mg X.base CX k f fd ps sp)(hr:cO k X.A)(hb:Binds X.K fd ps ds)(hd:Vals fw ds)(hx:Passes CX X E)(ha:PA X (e::es) t)
 (hst:starEach (e::es) X.env=(false,eval e X.env)::starEach es X.env:=by rfl) (jn:(backTo pos (starEach es X.env)).any (·.1)=false:=by rfl)
 (ht:eval (.Call (.Attribute o m apos) (e::es) [] pos) X.env=(do
   let ov <-eval o X.env
   standAt apos.atName
   let (f,first) <-holding [ov] (getMethod ov m pl)
   callWith pos f first (backTo pos (starEach (e::es) X.env)) (backToKw pos (keywordEach [] X.env))):=by rfl):
 PE X (.Call (.Attribute o m apos) (e::es) [] pos) (An C m sp fw E ta t):=by
 intro pins s σ H Q I h;refine W.methodCall_KW (pl:=pl) (aQ (he pins s σ H _ I h) λu s1 ⟨x,H1,I1,rx,a,dx,fs,ex,ea,l,q⟩=>?_) ht;subst ex;obtain rfl:u=Value.ref a:=rx;refine sG I1 ea c hm l ?_;refine W.callWith_K (first:=[.ref a]) (h₀:=X.base) I.ok.mod.jm hm.kp (aQ (ha pos pins s1 σ H1 _ I1 q) λus s2 ⟨vs,H2,I2,r,q2⟩=>⟨I2.d8,?_⟩) hst jn;exact si (us:=.ref a::us) (vs:=.ref a::vs) F hr hb hd hx I2 (.cons rfl r) q2
theorem FW {pl:Sem Bool}(he:PE X o ta)(c:gH X.K C)(hm:Meth X.K C m f)(F:dE X.prog X.w X.K X.mg X.base CX k f fd ps sp)(hr:cO k X.A)(hb:Binds X.K fd ps ds)(hd:Vals fw ds)(hx:Passes CX X E)
 (ht:eval (.Call (.Attribute o m apos) [] [] pos) X.env=(do
   let ov <-eval o X.env
   standAt apos.atName
   let (f,first) <-holding [ov] (getMethod ov m pl)
   callWith pos f first (backTo pos (starEach [] X.env)) (backToKw pos (keywordEach [] X.env))):=by rfl):
 PE X (.Call (.Attribute o m apos) [] [] pos) (An C m sp fw E ta lX):=by
 intro pins s σ H Q I h;refine W.methodCall_KW (pl:=pl) (aQ (he pins s σ H _ I h) λu s1 ⟨x,H1,I1,rx,a,dx,fs,ex,ea,l,q⟩=>?_) ht;subst ex;obtain rfl:u=Value.ref a:=rx;refine sG I1 ea c hm l ?_;exact W.callWith_K0 (first:=[.ref a]) I1.d8 hm.kp (si (us:=[.ref a]) (vs:=[.ref a]) F hr hb hd hx I1 (.cons rfl .nil) q)
structure Mk (K:Fg)(C f:Addr):Prop where
 makes:W.makesIn K C=true
 init:W.findIn K (.ref C) "__init__" = some (some (.ref f))
 fn:W.isFn K (.ref f)=true
 kp:W.keepIn K (.ref C)=true
theorem xt {pins:List (Addr×Obj)}{σ:St}{H:Hp}{s:Sh}{Q:VK}{us:List Value}{vs:List V}(M:Mk X.K C f)(F:dE X.prog X.w X.K X.mg X.base CX k f fd ps sp)(hr:cO (k+1) X.A)(hb:Binds X.K fd ps ds)(hd:Vals fw ds)
 (hx:Passes CX X E) (I:Inv X pins σ H s) (r:Vals vs us)
 (h:∀x dx,H x=none->H dx=none->dx≠x->sp (.ref x::(vs++fw)) (upd (upd H dx (.own x)) x (.ins C dx [])) (λv H2=>v = .aj/\Q (.ref x) H2) E):
 wpAny (model X.prog X.w) X.A (call (.ref C) us) (EP X pins σ Q) X.xe s:=by
 have hq:=h (s.heap.objs.size+1) s.heap.objs.size (I.aq.fresh (Nat.le_succ _)) (I.aq.fresh (Nat.le_refl _)) (Nat.ne_of_lt (Nat.lt_succ_self _));have I2:=Inv.made (C:=C) I;have r2:Vals (V.ref (s.heap.objs.size+1)::(vs++fw)) (Value.ref (s.heap.objs.size+1)::(us++ds)):=.cons rfl (r.append hd);have hl:(Value.ref (s.heap.objs.size+1)::us++ds).length=ps.length:=by have e:=r2.length;rw[F.len _ _ _ _ hq] at e;exact e.symm
 refine wpAny_call (vX (f:=f) I.d8 M.makes M.init (beq_iff_eq.mp M.fn) (codeAny_mono (F.run _ X.stack _ _ ⟨Value.ref (s.heap.objs.size+1)::us,[]⟩ (Value.ref (s.heap.objs.size+1)::(us++ds)) _ _ E (hr.make C us [])
  (I2.jR.make C us []) (hb _ (Value.ref (s.heap.objs.size+1)::us) I2.d8 hl) r2 hq) λr s' gI=>?_))
 cases r with
 | error e=>exact hx pins σ _ _ e s' I2 gI
 | ok fl=>
  cases fl with
  | ret u=>obtain⟨v,H',I3,rv,ev,q3⟩:=I2.after gI;subst ev;exact⟨rv,⟨V.ref (s.heap.objs.size+1),H',I3,rfl,q3⟩⟩
  | next=>exact False.elim gI
  | brk=>exact False.elim gI
  | cont=>exact False.elim gI
theorem HS (M:Mk X.K C f)(F:dE X.prog X.w X.K X.mg X.base CX k f fd ps sp)(hr:cO (k+1) X.A)(hg:Gl X x)(hm:X.mg x=some (.ref C))(hb:Binds X.K fd ps ds)(hd:Vals fw ds)(hx:Passes CX X E)
 (ha:PA X (e::es) t) (lR:(x==("__debug__":Str))=false:=by decide) (he:starEach (e::es) X.env=(false,eval e X.env)::starEach es X.env:=by rfl) (jn:(backTo pos (starEach es X.env)).any (·.1)=false:=by rfl):
 PE X (.Call (.Name x p) (e::es) [] pos) (Bw C sp fw E t):=by
 intro pins s σ H Q I h;refine wpAny_Call_Name_kw (jL I hg hm ?_ lR);refine W.callWith_K (h₀:=X.base) I.ok.mod.jm M.kp (aQ (ha pos pins s σ H _ I h) λus s1 ⟨vs,H1,I1,r,q⟩=>⟨I1.d8,?_⟩) he jn;exact xt M F hr hb hd hx I1 r q
theorem Ek (M:Mk X.K C f)(F:dE X.prog X.w X.K X.mg X.base CX k f fd ps sp)(hr:cO (k+1) X.A)(hg:Gl X x)(hm:X.mg x=some (.ref C))(hb:Binds X.K fd ps ds)(hd:Vals fw ds)(hx:Passes CX X E)
 (lR:(x==("__debug__":Str))=false:=by decide):PE X (.Call (.Name x p) [] [] pos) (Bw C sp fw E lX):=by
 intro pins s σ H Q I h;refine wpAny_Call_Name_kw (jL I hg hm ?_ lR);exact W.callWith_K0 I.d8 M.kp (xt (us:=[]) M F hr hb hd hx I .nil h)
end
def PK (X:Cx)(kws:List Keyword)(t:TA):Prop:=
 ∀(pos:Pos) (pins:List (Addr×Obj)) (s:Sh) (σ:St) (H:Hp) (Q:List V->Hp->Prop),Inv X pins σ H s->t σ H Q->wpAny (model X.prog X.w) X.A (evalAll ((backToKw pos (keywordEach kws X.env)).map (·.2))) (AP X pins σ Q) X.xe s
section
variable {X:Cx}{CX:kL}{k:Nat}{f C:Addr}{fd:FuncData}{ps ks:List Str}{sp:Sp}{E:XK}{x m:Str}{p pos apos kpos:Pos}{e o:Expr}{es:List Expr}{kws:List Keyword}{te ta:TE}{t tk:TA}{nm:Option Str}
theorem Na:PK X [] lX:=λ_ _ _ _ H Q I h=>wpAny_evalAll_nil ⟨[],H,I,.nil,h⟩
theorem H9 (ha:PE X e te)(hr:PK X kws t):PK X (⟨nm,e,kpos⟩::kws) (pq te t):=by intro pos pins s σ H Q I h;show wpAny _ _ (evalAll ((do let v <-eval e X.env;standAt pos;pure v)::(backToKw pos (keywordEach kws X.env)).map (·.2))) _ _ s;refine wpAny_evalAll_cons (wpAny_bind (aQ (ha pins s σ H _ I h) λu s1 ⟨x,H1,I1,r1,q1⟩=>wpAny_bind (wpAny_standAt (wpAny_pure ?_))));exact aQ (hr pos pins s1 σ H1 _ I1 q1) λus s2 ⟨xs,H2,I2,r2,q2⟩=>⟨x::xs,H2,I2,.cons r1 r2,q2⟩
structure wc (K:Fg)(fd:FuncData)(ps ks:List Str)(g:List Value->List Value->List Value)(gV:List V->List V->List V):Prop where
 to:∀(s:Sh) (us ws:List Value),K.In s.heap->(g us ws).length=ps.length->BindsTo s fd ⟨us,ks.zip ws⟩ (ps.zip (g us ws))
 rel:∀{vs:List V} {us:List Value} {zs:List V} {ws:List Value},Vals vs us->Vals zs ws->Vals (gV vs zs) (g us ws)
variable {g:List Value->List Value->List Value}{gV:List V->List V->List V}
end
structure gm (N P:List Str)(sc:Scope):Prop where
 kind:sc.kind = .function
 co:sc.isCoroutine=false
 gen:sc.isGenerator=false
 nd:N.Nodup
 pre:N.take P.length=P
 par:∀x∈P,sc.names.lookup x=some .local\/sc.names.lookup x=some .cell
 Nf:∀y∈sc.names,y.2 ≠ .free
theorem t9 {kindOf:Str->Option NameKind}{x:Str}:∀{binds:List (Str×Value)} {m:Str->Option Value},(∀v,(x,v)∉binds)->bindL kindOf binds m x=m x
 | [],_,_=>rfl
 | (n,v)::r,m,h=>by
  unfold bindL;rw[t9 λw hw=>h w (List.mem_cons_of_mem _ hw)];split
  .have:x≠n:=by rintro rfl;exact h v List.mem_cons_self
   simp[this]
  .rfl
theorem ue {kindOf:Str->Option NameKind}{x:Str}:∀{binds:List (Str×Value)} {m:Str->Option Value},(∀v,(x,v)∉binds)->bindC kindOf binds m x=m x
 | [],_,_=>rfl
 | (n,v)::r,m,h=>by
  unfold bindC;rw[ue λw hw=>h w (List.mem_cons_of_mem _ hw)];split
  .rfl
  .have:x≠n:=by rintro rfl;exact h v List.mem_cons_self
   simp[this]
theorem ui {kindOf:Str->Option NameKind}{x:Str}{v:Value}:∀{P:List Str} {vs:List Value} {i:Nat} {m:Str->Option Value},P.Nodup->P[i]?=some x->vs[i]?=some v->kindOf x=some .local ->
 bindL kindOf (P.zip vs) m x=some v
 | [],_,_,_,_,h,_,_=>by simp at h
 | _::_,[],_,_,_,_,h,_=>by simp at h
 | p::P,w::vs,0,m,nd,h1,h2,hk=>by simp at h1 h2;subst h1;subst h2;show bindL kindOf ((p,w)::P.zip vs) m p=_;unfold bindL;rw[t9 λv hv=>(List.nodup_cons.mp nd).1 (List.of_mem_zip hv).1,if_pos hk];simp
 | p::P,w::vs,i+1,m,nd,h1,h2,hk=>by show bindL kindOf ((p,w)::P.zip vs) m x=_;unfold bindL;exact ui (i:=i) (List.nodup_cons.mp nd).2 (by simpa using h1) (by simpa using h2) hk
theorem uH {kindOf:Str->Option NameKind}{x:Str}{v:Value}:∀{P:List Str} {vs:List Value} {i:Nat} {m:Str->Option Value},P.Nodup->P[i]?=some x->vs[i]?=some v->kindOf x≠some .local ->
 bindC kindOf (P.zip vs) m x=some v
 | [],_,_,_,_,h,_,_=>by simp at h
 | _::_,[],_,_,_,_,h,_=>by simp at h
 | p::P,w::vs,0,m,nd,h1,h2,hk=>by simp at h1 h2;subst h1;subst h2;show bindC kindOf ((p,w)::P.zip vs) m p=_;unfold bindC;rw[ue λv hv=>(List.nodup_cons.mp nd).1 (List.of_mem_zip hv).1,if_neg hk];simp
 | p::P,w::vs,i+1,m,nd,h1,h2,hk=>by show bindC kindOf ((p,w)::P.zip vs) m x=_;unfold bindC;exact uH (i:=i) (List.nodup_cons.mp nd).2 (by simpa using h1) (by simpa using h2) hk
def start (N:List Str)(vs:List V):St:=vs.map some++List.replicate (N.length-vs.length) none
def qz (CX:kL)(P:Program)(w:World)(K:Fg)(mg:Str->Option Value)(base:Heap)(N:List Str)(qual:Str)(scope:Scope)(f:Addr)(cd:Value)(A:Around)(outer:List Env)(s:Sh)(H:Hp)(E:XK):Cx where
 prog:=P
 w:=w
 K:=K
 mg:=mg
 base:=base
 A:=A.deeper (envOfC qual scope s.heap.objs.size f cd)
 N:=N
 s₀:=s
 H₀:=H
 env:=envOfC qual scope s.heap.objs.size f cd
 outer:=outer
 stack:=envOfC qual scope s.heap.objs.size f cd::outer
 ex:=[]
 calm:=true
 fn:=λ_=>true
 pn:=[]
 xe:=λe s'=>wpAny (model P w) (A.deeper (envOfC qual scope s.heap.objs.size f cd)) (leaving (envOfC qual scope s.heap.objs.size f cd) e) (λ_ s''=>CX outer H s E e s'') (λe' s''=>CX outer H s E e' s'') s'
theorem vJ {sc:Scope}{n:Nat}{x:Str}(h:sc.names.lookup x=some .cell):∃c,(cellsFrom n sc.names []).lookup x=some c:=by have q:=W.cellsFrom_some sc.names n [] (.inl h);exact Option.isSome_iff_exists.mp q
theorem CJ {CX:kL}{P:Program}{w:World}{K:Fg}{mg:Str->Option Value}{base:Heap}{N ps:List Str}{qual:Str}{scope:Scope}{f:Addr}{cd:Value}{A:Around}{outer:List Env}{s s1:Sh}{H:Hp}{E:XK}{us:List Value}{vs:List V}
 (S:gm N ps scope) (hd:A.handled=none) (e0:qA P w K mg base A outer s H) (hl:vs.length=ps.length) (r:Vals vs us)
 (x:InCallC s s.heap.objs.size (bindL (envOfC qual scope s.heap.objs.size f cd).kindOf (ps.zip us) λ_=>none) (cellsFrom (s.heap.objs.size+1) scope.names []) (bindC (envOfC qual scope s.heap.objs.size f cd).kindOf (ps.zip us) λ_=>none) s1):
 Inv (qz CX P w K mg base N qual scope f cd A outer s H E) [] (start N vs) H s1:=by
 have jn:ps.length<=N.length:=by have:=congrArg List.length S.pre;rw[List.length_take] at this;omega
 obtain⟨h1,tk,rfl,hk⟩:=x.done;have fN:∀b:Addr,b∉(qz CX P w K mg base N qual scope f cd A outer s H E).ex:=λb z=>absurd (show b∈([]:List Addr) from z) (by simp);refine⟨⟨e0.mod,S.kind,rfl,rfl,Nat.le_refl _,λy z c h1 h2=>?_,λy hy=>?_,λy c _ h=>?_,λ_=>hd,Around.frames_deeper e0.frames,.inr ⟨rfl,rfl⟩,λb z=>absurd z (fN b),e0.bs,e0.qb,λb _ _=>fN b,λb z=>absurd z (fN b),e0.eg,e0.uS⟩,
  rfl,e0.bare,Un.kept hk,⟨_,x.toInCall.ns,λi y v h1 h2 h3=>?_⟩,λy c h=>⟨_,x.cell y c h⟩,e0.aq.fresh (Nat.le_refl _),λy c h=>?_,λp hp=>absurd (show p∈([]:List (Addr×Obj)) from hp) (by simp),e0.aq.kept hk,?_⟩
 .exact name_of_addr x.apart (PySem.mem_of_lookup h1) (PySem.mem_of_lookup h2)
 .have hy:scope.names.lookup y=some .cell\/scope.names.lookup y=some .free:=hy;rcases hy with hy | hy
  .exact vJ hy
  .exact absurd rfl (S.Nf _ (PySem.mem_of_lookup hy))
 .exact Nat.le_of_lt (x.above y c (PySem.mem_of_lookup h))
 .have hi:i<vs.length:=by
   unfold start at h2
   by_cases hi:i<vs.length
   .exact hi
   .rw[List.getElem?_append_right (by simpa using hi)] at h2;rw[List.getElem?_replicate] at h2;split at h2<;>cases h2
  have ha:vs[i]?=some v:=by
   unfold start at h2;rw[List.getElem?_append_left (by simpa using hi),List.getElem?_map] at h2;cases e:vs[i]? with
   | none=>rw[e] at h2;cases h2
   | some a=>rw[e] at h2;cases h2;rfl
  obtain⟨u,hu,rv⟩:=r.get ha;have hp:ps[i]?=some y:=by rw[<-S.pre,List.getElem?_take_of_lt (by omega)];exact h1
  have ndP:ps.Nodup:=by rw[<-S.pre];exact S.nd.sublist (List.take_sublist _ _)
  refine⟨u,rv,?_⟩;rcases S.par y (List.mem_of_getElem? hp) with k | k
  .exact .inl ⟨k,ui ndP hp hu k⟩
  .obtain⟨c,e⟩:=vJ (n:=s.heap.objs.size+1) k;refine .inr ⟨.inl k,c,e,?_⟩;have q:=x.cell y c e;rw[uH ndP hp hu (by show scope.names.lookup y≠_;rw[k];decide)] at q;exact q
 .exact e0.aq.fresh (Nat.le_of_lt (x.above y c (PySem.mem_of_lookup h)))
 .unfold start;show _=N.length;rw[List.length_append,List.length_map,List.length_replicate];omega
theorem Nv {CX:kL}{P:Program}{w:World}{K:Fg}{mg:Str->Option Value}{base:Heap}{k:Nat}{f:Addr}{name qual:Str}{params:Arguments}{body:List Stmt}{scope:Scope}{dV kV doc pm g8 ct oc:Value}{an od:Option Addr}
 {uT:Array (Option Value)} {N ps:List Str} {sp:Sp} (lk:K.lookup f=some ⟨oc,od,.func (W.fnOf name qual params body scope dV kV doc pm an g8 ct),uT⟩) (sI:W.codeIn K g8 qual=true) (S:gm N ps scope)
 (len:∀vs H Q E,sp vs H Q E->vs.length=ps.length)
 (BA:∀(A:Around) (outer:List Env) (s:Sh) (H:Hp) (vs:List V) (Q:VK) (E:XK),cO k (A.deeper (envOfC qual scope s.heap.objs.size f g8))->sp vs H Q E ->
   ∃t,iC (qz CX P w K mg base N qual scope f g8 A outer s H E) body t/\t { nx:=λ_ H'=>Q .aj H',rt:=Q } (start N vs) H):
 dE P w K mg base CX (k+1) f (W.fnOf name qual params body scope dV kV doc pm an g8 ct) ps sp:=by
 refine⟨len,λA outer s H args us vs Q E hr e0 hb r uU=>?_⟩;have hl:=len _ _ _ _ uU;have KX:K.In s.heap:=e0.mod.jm.keeps λb o e=>(e0.bs b o e).1;have lim:s.heap.NoLimit:=e0.mod.nolimit.keeps λb o e=>(e0.bs b o e).1;have OA:∀y∈ps.zip us,scope.names.lookup y.1=some .local\/(scope.names.lookup y.1=some .cell/\((cellsFrom (s.heap.objs.size+1) scope.names []).lookup y.1).isSome=true):=λ⟨n,v⟩ hy=>by
  rcases S.par n (List.of_mem_zip hy).1 with q | q
  .exact .inl q
  .exact .inr ⟨q,W.cellsFrom_some _ _ _ (.inl q)⟩
 refine codeAny_call_function hr.depth (KX _ _ lk) rfl S.co S.gen rfl (W.codeRec_of KX sI) (hb _ _ _ _ ?_);refine wpAny_newFunctionEnv_cells S.kind OA λenv he s1 x=>?_;subst he;refine⟨lim.keeps x.toInCall.keep,codeAny_func ?_⟩;obtain⟨t,ht,hq⟩:=BA A outer s H vs Q E (hr.deeper _) uU;have I:Inv (qz CX P w K mg base N qual scope f g8 A outer s H E) [] (start N vs) H s1:=CJ S hr.hd e0 hl r x;refine wpAny_mono (ht [] s1 (start N vs) H _ I hq) (λfl s' hs=>?_) λe s' hs=>hs;have fin:∀{σ':St} {H':Hp} {v:V} {u:Value},Inv (qz CX P w K mg base N qual scope f g8 A outer s H E) [] σ' H' s'->RelV v u->Q v H'->CE outer P w H s Q u s':=
  λ{σ' H' v u} J rv q=>⟨v,H',J.os,J.bare,J.base,J.aq,rv,q⟩
 cases fl with
 | ret u=>obtain⟨v,σ',H',J,rv,q⟩:=hs;exact fin J rv q
 | next=>obtain⟨σ',H',J,q⟩:=hs;exact fin (v:=V.aj) (u:=Value.none) J rfl q
 | brk=>obtain⟨_,_,_,q⟩:=hs;exact False.elim q
 | cont=>obtain⟨_,_,_,q⟩:=hs;exact False.elim q
section
variable {X:Cx}{x:Str}{p pos:Pos}{e:Expr}{es:List Expr}{t:TA}{id T:String}{r:List V->Hp->VK->Prop}
def Mj (r:List V->Hp->VK->Prop)(t:TA):TE:=λσ H Q=>t σ H λvs H1=>r vs H1 Q
theorem iK (hc:dt X (.builtin id) r)(hg:Gl X x)(hm:X.mg x=none)(hv:bootBuiltins x=some (.builtin id))(ha:PA X (e::es) t)(hn:x ≠ "__name__":=by decide)(lR:(x==("__debug__":Str))=false:=by decide)
 (he:starEach (e::es) X.env=(false,eval e X.env)::starEach es X.env:=by rfl) (jn:(backTo pos (starEach es X.env)).any (·.1)=false:=by rfl):PE X (.Call (.Name x p) (e::es) [] pos) (Mj r t):=by
 intro pins s σ H Q I h;refine wpAny_Call_Name_kw (nQ I hg hm hv ?_ hn lR);exact PyProof.Rows.callWith_builtin1 (aQ (ha pos pins s σ H _ I h) λus s1 ⟨vs,H1,I1,r1,q1⟩=>hc pins s1 σ H1 vs us Q I1 r1 q1) he jn
theorem kC (hc:dt X (.type T) r)(hg:Gl X x)(hm:X.mg x=none)(hv:bootBuiltins x=some (.type T))(ha:PA X (e::es) t)(hn:x ≠ "__name__":=by decide)(lR:(x==("__debug__":Str))=false:=by decide)
 (he:starEach (e::es) X.env=(false,eval e X.env)::starEach es X.env:=by rfl) (jn:(backTo pos (starEach es X.env)).any (·.1)=false:=by rfl):PE X (.Call (.Name x p) (e::es) [] pos) (Mj r t):=by
 intro pins s σ H Q I h;refine wpAny_Call_Name_kw (nQ I hg hm hv ?_ hn lR);exact PyProof.Rows.callWith_type1 (aQ (ha pos pins s σ H _ I h) λus s1 ⟨vs,H1,I1,r1,q1⟩=>hc pins s1 σ H1 vs us Q I1 r1 q1) he jn
end
end L2
namespace HT
open PySem PyProof.Rows
section
open PySem.SeqAt
open PySem.AutoSeq1 (wpAny_loadPart')
open PySem.MeetsSeq PySem.MeetsSeq2 PySem.MeetsSeq3
end
section
variable {prog:Program}{w:World}{A:Around}{E:Value->Sh->Prop}{s:Sh}
theorem JU {t b:Addr}{vs ws:List Value}{Q:Value->Sh->Prop}(ht:IsTup s.heap t vs.toArray)(hb:IsTup s.heap b ws.toArray)(hv:vs≠[])
 (h1:ws=[]->Q (.ref t) s) (h2:ws≠[]->Q (.ref s.heap.objs.size) { s with heap:=s.heap.push { cls:=.type "tuple",data:=.seq (vs++ws).toArray } })
 (hsz:vs.length+ws.length<=sizeLine):wpAny (model prog w) A (binaryOp .Add (.ref t) (.ref b)) Q E s:=by
 obtain⟨⟨cls,dd,data,sl⟩,ho,hc,n,hd⟩:=id ht;obtain⟨⟨cls2,dd2,data2,sl2⟩,fz,uV,n2,hd2⟩:=id hb;simp only at hc hd uV hd2;subst hc hd uV hd2;have e:vs.toArray++ws.toArray=(vs++ws).toArray:=by simp
 by_cases hw:ws=[]
 .exact concat_meets ⟨_,ho,rfl⟩ ⟨_,fz,rfl⟩ noFill_tuple_add seq_tuple_add PySem.F.slot_tuple_add PySem.F.entry_tuple_add (PySem.F.args_tuple_add_2 _ _)
   (tuple_addW1 t b vs.toArray ws.toArray n n2 dd dd2 sl sl2 (by simpa using hv) (by simp[hw])) ⟨ho,fz,h1 hw⟩
 .refine concat_meets ⟨_,ho,rfl⟩ ⟨_,fz,rfl⟩ noFill_tuple_add seq_tuple_add PySem.F.slot_tuple_add PySem.F.entry_tuple_add (PySem.F.args_tuple_add_2 _ _)
   (tuple_addW2 t b vs.toArray ws.toArray n n2 dd dd2 sl sl2 (by simpa using hv) (by simpa using hw) (by rw[List.size_toArray,List.size_toArray];exact hsz)) ⟨ho,fz,?_⟩
  rw[e];exact h2 hw
def a9 (n d:Nat):Option Int->Nat
 | none=>d
 | some v=>if v<0 then (v+(n:Int)).toNat else min v.toNat n
theorem Ko (n d:Nat)(hd:d<=n)(o:Option Int):a9 n d o<=n:=by
 cases o with
 | none=>exact hd
 | some v=>
  show (if v<0 then (v+(n:Int)).toNat else min v.toNat n)<=n
  by_cases hv:v<0
  .rw[if_pos hv];omega
  .rw[if_neg hv];exact Nat.min_le_right _ _
theorem zl (v:Int)(n d:Nat):(if v<0 then max (v+(n:Int)) 0 else min v (n:Int))=((a9 n d (some v):Nat):Int):=by
 show (if v<0 then max (v+(n:Int)) 0 else min v (n:Int))=(((if v<0 then (v+(n:Int)).toNat else min v.toNat n):Nat):Int)
 by_cases hv:v<0
 .simp only[if_pos hv];omega
 .simp only[if_neg hv];omega
theorem AU (lo hi:Option Int)(n:Nat):Builtin.Slice.sliceAdjust lo hi 1 (n:Int)=(((a9 n 0 lo:Nat):Int),((a9 n n hi:Nat):Int)):=by
 have h1:¬((1:Int)<0):=by omega
 unfold Builtin.Slice.sliceAdjust;simp only[h1,if_false];refine Prod.ext ?_ ?_
 .cases lo with
  | none=>rfl
  | some v=>exact zl v n 0
 .cases hi with
  | none=>rfl
  | some v=>exact zl v n n
theorem Bc (i j:Nat):Builtin.Slice.slicePlaces (i:Int) (j:Int) 1=j-i:=by
 unfold Builtin.Slice.slicePlaces;have h1:(1:Int) > 0:=by omega
 simp only[h1,if_true,Int.ediv_one];split<;>omega
theorem sr {v:Value}{o:Option Int}{Q:Option Int->Sh->Prop}(p:IsPart v o)(h:Q o s):wpAny (model prog w) A (Builtin.Slice.slicePartIndex v) Q E s:=by
 cases p with
 | none=>exact slicePart_none h
 | int i t=>exact slicePart_int h
theorem j6 {sl:Addr}{vl vu:Value}{lo hi:Option Int}{n:Nat}{Q:Int×Int×Nat->Sh->Prop}(hs:s.heap.IsSliceOf sl vl vu .none)(pl:IsPart vl lo)(pu:IsPart vu hi)
 (h:Q (((a9 n 0 lo:Nat):Int),1,a9 n n hi-a9 n 0 lo) s):wpAny (model prog w) A (Builtin.Slice.sliceApplied (.ref sl) (pure (n:Int))) Q E s:=by
 obtain⟨os,sL,hcs,xZ⟩:=id hs;unfold Builtin.Slice.sliceApplied Builtin.Slice.sliceFields;refine wpAny_bind (wpAny_bind (wpAny_field sL xZ (x:=vl) rfl (wpAny_bind (wpAny_field sL xZ (x:=vu) rfl (wpAny_bind (wpAny_field sL xZ (x:=.none) rfl (wpAny_pure ?_)))))));refine wpAny_bind (slicePart_none ?_);show wpAny _ _ (if ((1:Int)==0)=true then _ else _) _ _ s;rw[if_neg (by decide)];refine wpAny_bind (sr pl (wpAny_bind (sr pu (wpAny_bind (wpAny_pure ?_)))));show wpAny _ _ (match Builtin.Slice.sliceAdjust lo hi 1 (n:Int) with | (lo,hi)=>pure (lo,(1:Int),Builtin.Slice.slicePlaces lo hi 1)) _ _ s;rw[AU lo hi n];show wpAny _ _ (pure (((a9 n 0 lo:Nat):Int),(1:Int),Builtin.Slice.slicePlaces ((a9 n 0 lo:Nat):Int) ((a9 n n hi:Nat):Int) 1)) _ _ s;rw[Bc];exact wpAny_pure h
theorem Em (xs:Array Value)(i k:Nat):((List.range k).filterMap λ(m:Nat)=>xs[((i:Int)+(m:Int)*1).toNat]?).toArray=((xs.toList.drop i).take k).toArray:=by
 have e:(λ(m:Nat)=>xs[((i:Int)+(m:Int)*1).toNat]?)=λm=>xs[i+m]?:=by
  funext m
  have:((i:Int)+(m:Int)*1).toNat=i+m:=by omega
  rw[this]
 rw[e];have:=pick_run xs i k;rw[List.filterMap_map] at this;have e2:((λx=>xs[x]?) ∘ λx=>i+x)=λm=>xs[i+m]?:=rfl;rw[e2] at this;rw[this]
theorem pD {t sl:Addr}{items:Array Value}{vl vu:Value}{lo hi:Option Int}{Q:Value->Sh->Prop}(ht:IsTup s.heap t items)(hs:s.heap.IsSliceOf sl vl vu .none)(pl:IsPart vl lo)(pu:IsPart vu hi)
 (hw:¬(a9 items.size 0 lo=0/\a9 items.size items.size hi=items.size))
 (h:Q (.ref s.heap.objs.size) { s with heap:=s.heap.push { cls:=.type "tuple",data:=.seq ((items.toList.drop (a9 items.size 0 lo)).take (a9 items.size items.size hi-a9 items.size 0 lo)).toArray } })
 (hsz:items.size<=sizeLine):wpAny (model prog w) A (getItem (.ref t) (.ref sl)) Q E s:=by
 have vE:sizeOk (.seq ((items.toList.drop (a9 items.size 0 lo)).take (a9 items.size items.size hi-a9 items.size 0 lo)).toArray):=by show ((items.toList.drop (a9 items.size 0 lo)).take (a9 items.size items.size hi-a9 items.size 0 lo)).toArray.size<=sizeLine;rw[List.size_toArray,List.length_take,List.length_drop,Array.length_toList];omega
 have hj:a9 items.size items.size hi<=items.size:=Ko _ _ (Nat.le_refl _) hi;obtain⟨os,sL,hcs,xZ⟩:=id hs;have hTs:s.TypeIs (.ref sl) "slice":=⟨os,sL,hcs⟩;unfold getItem
 try with_reducible refine wpAny_holding ?_
 first | refine wpAny_bind (wpAny_pure ?_) | skip
 refine wpAny_bind (wpAny_sequenceKey ht.typeIs (by decide) ?_);refine wpAny_bind (wpAny_callSpecial?_slot (name:=Str.ofString "__getitem__") ht.typeIs PyProof.Rows.slot_tuple_getitem
  (wpAny_call_entry PyProof.Rows.slot_tuple_getitem ht.typeIs entry_tuple_getitem ?_ (args_tuple_getitem _ _)))
 show wpAny _ _ (Builtin.Tuple.tupleItemsOf (.ref t) >>= _) _ _ s;refine wpAny_bind (tupleItemsOf_ ht ?_);refine wpAny_bind (wpAny_typeOf hTs ?_);rw[if_pos (by decide)];refine wpAny_bind (j6 hs pl pu ?_);have kO:¬((((a9 items.size 0 lo:Nat):Int)==0&&(1:Int)==1&&(a9 items.size items.size hi-a9 items.size 0 lo)==items.size)=true):=by intro q;rw[Bool.and_eq_true,Bool.and_eq_true] at q;have q1:((a9 items.size 0 lo:Nat):Int)=0:=eq_of_beq q.1.1;have q2:a9 items.size items.size hi-a9 items.size 0 lo=items.size:=eq_of_beq q.2;exact hw ⟨by omega,by omega⟩
 show wpAny _ _ (if (((a9 items.size 0 lo:Nat):Int)==0&&(1:Int)==1&&(a9 items.size items.size hi-a9 items.size 0 lo)==items.size)=true then _ else _) _ _ s;rw[if_neg kO,Em]
 first
  | exact wpAny_bind (m:=Builtin.Tuple.tupleExact _) (wpAny_newObj_type (wpAny_pure ⟨_,rfl,wpAny_pure h⟩) vE)
  | exact wpAny_bind (m:=Builtin.Tuple.tupleExact _) (wpAny_newObj_type (wpAny_bind (wpAny_pure (wpAny_pure ⟨_,rfl,wpAny_pure h⟩))) vE)
  | exact wpAny_bind (wpAny_bind (m:=Builtin.Tuple.tupleExact _) (wpAny_newObj_type (wpAny_pure (wpAny_pure ⟨_,rfl,wpAny_pure h⟩)) vE))
  | exact wpAny_bind (wpAny_bind (m:=Builtin.Tuple.tupleExact _) (wpAny_newObj_type (wpAny_pure ⟨_,rfl,wpAny_pure h⟩) vE))
end
end HT
namespace L2
open PySem PySem.Spec PyProof.Rows
abbrev TO:=St->Hp->(Option Int->Hp->Prop)->Prop
def PO (X:Cx)(e:Option Expr)(t:TO):Prop:=
 ∀(pins:List (Addr×Obj)) (s:Sh) (σ:St) (H:Hp) (Q:Option Int->Hp->Prop),Inv X pins σ H s->t σ H Q ->
  wpAny (model X.prog X.w) X.A (evalPart e X.env) (λu s'=>∃o H',Inv X pins σ H' s'/\IsPart u o/\Q o H') X.xe s
def JM:TO:=λ_ H Q=>Q none H
def Oj (t:TE):TO:=λσ H Q=>t σ H λx H1=>∃i,x = .int i/\Q (some i) H1
section
variable {X:Cx}{e:Expr}{te:TE}{lo hi:Option Expr}{tl th:TO}{pos p2:Pos}
theorem JK:PO X none JM:=by intro pins s σ H Q I h;rw[evalPart_none];exact wpAny_pure ⟨none,H,I,.none,h⟩
theorem HY (h:PE X e te):PO X (some e) (Oj te):=by intro pins s σ H Q I hw;rw[evalPart_some];refine aQ (h pins s σ H _ I hw) λu s1 ⟨x,H1,I1,r1,q1⟩=>?_;obtain⟨i,rfl,q⟩:=q1;obtain⟨t,rfl⟩:=r1;exact⟨some i,H1,I1,.int i t,q⟩
def uq (X:Cx)(r:V->Option Int->Option Int->Hp->VK->Prop):Prop:=
 ∀(pins:List (Addr×Obj)) (s:Sh) (σ:St) (H:Hp) (x:V) (v vl vu:Value) (lo hi:Option Int) (sl:Addr) (Q:VK),Inv X pins σ H s->RelV x v->s.heap.IsSliceOf sl vl vu .none->IsPart vl lo->IsPart vu hi->r x lo hi H Q ->
  ∃T id,typeLookup (.type T) "__getitem__" = pure (some (.builtin id))/\s.TypeIs v T/\wpAny (model X.prog X.w) X.A (getItem v (.ref sl)) (EP X pins σ Q) X.xe s
theorem uq.or {r r':V->Option Int->Option Int->Hp->VK->Prop}(h:uq X r)(h':uq X r'):uq X (λx lo hi H Q=>r x lo hi H Q\/r' x lo hi H Q):=by
 intro pins s σ H x v vl vu lo hi sl Q I rx hs pl pu q;rcases q with q | q
 .exact h pins s σ H x v vl vu lo hi sl Q I rx hs pl pu q
 .exact h' pins s σ H x v vl vu lo hi sl Q I rx hs pl pu q
def Qb (r:V->Option Int->Option Int->Hp->VK->Prop)(te:TE)(tl th:TO):TE:=λσ H Q=>te σ H λx H1=>tl σ H1 λl H2=>th σ H2 λu H3=>r x l u H3 Q
theorem FL {r:V->Option Int->Option Int->Hp->VK->Prop}(hr:uq X r)(he:PE X e te)(hl:PO X lo tl)(hu:PO X hi th):PE X (.Subscript e (.Slice lo hi none p2) pos) (Qb r te tl th):=by intro pins s σ H Q I h;refine Subscript_ (aQ (he pins s σ H _ I h) λv s1 ⟨x,H1,I1,r1,q1⟩=>?_);refine wpAny_Slice (aQ (hl pins s1 σ H1 _ I1 q1) λvl s2 ⟨l,H2,I2,pl,q2⟩=>aQ (hu pins s2 σ H2 _ I2 q2) λvu s3 ⟨u,H3,I3,pu,q3⟩=>?_);rw[evalPart_none];refine wpAny_pure ?_;have I4:Inv X pins σ H3 { s3 with heap:=s3.heap.push { cls:=.type "slice",data:=.fields #[vl,vu,.none] } }:=I3.kept (t':=s3.toks) λb ob q=>Heap.get?_push_of_some _ q;obtain⟨T,id,hT,ht,hg⟩:=hr pins { s3 with heap:=s3.heap.push { cls:=.type "slice",data:=.fields #[vl,vu,.none] } } σ H3 x v vl vu l u s3.heap.objs.size Q I4 r1 (Heap.IsSliceOf.new ..) pl pu q3;show wpAny (model X.prog X.w) X.A (subscriptTail e (.Slice lo hi none p2) v (.ref s3.heap.objs.size)) (EP X pins σ Q) X.xe { s3 with heap:=s3.heap.push { cls:=.type "slice",data:=.fields #[vl,vu,.none] } };exact tail_any (ops:=[.ref s3.heap.objs.size,v]) ht hT hg (by with_unfolding_all rfl)
def mB (xs:List V)(lo hi:Option Int):List V:=(xs.drop (HT.a9 xs.length 0 lo)).take (HT.a9 xs.length xs.length hi-HT.a9 xs.length 0 lo)
theorem pY (xs:List V)(lo hi:Option Int):(mB xs lo hi).length<=xs.length:=by unfold mB;rw[List.length_take,List.length_drop];omega
def Pl (K:Fg):V->Option Int->Option Int->Hp->VK->Prop:=λx lo hi H Q=>∃a xs,x = .ref a/\cy K H a xs /\
 ¬(HT.a9 xs.length 0 lo=0/\HT.a9 xs.length xs.length hi=xs.length)/\∀p,H p=none->Q (.ref p) (upd H p (.tup (mB xs lo hi)))
theorem MQ:uq X (Pl X.K):=by
 intro pins s σ H x v vl vu lo hi sl Q I rx hs pl pu h;obtain⟨a,xs,rfl,hx,hw,q⟩:=h;cases rx;obtain⟨ai,r,ht,hz⟩:=I.tuple hx;have hlen:ai.toArray.size=xs.length:=by rw[List.size_toArray];exact r.length.symm
 refine⟨"tuple",_,PyProof.Rows.slot_tuple_getitem.lookup,ht.typeIs,?_⟩;refine HT.pD ht hs pl pu (by rw[hlen];exact hw) ?_ (by rw[hlen];exact hz);rw[hlen];refine⟨.ref s.heap.objs.size,_,I.laid (t':=s.toks) (o:=.tup (mB xs lo hi)) (λb ob q=>Heap.get?_push_of_some _ q) (Nat.le_refl _) ?_,rfl,q _ (I.aq.fresh (Nat.le_refl _))⟩;exact⟨Nat.le_trans (pY xs lo hi) hz,_,(r.drop (HT.a9 xs.length 0 lo)).take (HT.a9 xs.length xs.length hi-HT.a9 xs.length 0 lo),IsTup.new _ _⟩
theorem Vals.gT {xs:List V}{us:List Value}(r:Vals xs us):us=[]↔xs=[]:=by
 cases r with
 | nil=>simp
 | cons _ _=>simp
end
def zo (n:Nat)(i:Int):Option Nat:=if 0<=i then (if i<n then some i.toNat else none) else if -(n:Int)<=i then some (i+n).toNat else none
def zj {α:Type}(xs:List α)(i:Int):Option α:=(zo xs.length i).bind λj=>xs[j]?
theorem zG {n:Nat}{i:Int}{j:Nat}(h:zo n i=some j):seqIndex? i n=some j/\j<n/\-(n:Int)<=i/\i<n:=by
 unfold zo at h
 by_cases h0:0<=i
 .rw[if_pos h0] at h
  by_cases h1:i<n
  .rw[if_pos h1] at h;have e:i.toNat=j:=Option.some.inj h;exact⟨by rw[seqIndex_of h0 h1,e],by omega,by omega,h1⟩
  .rw[if_neg h1] at h;cases h
 .rw[if_neg h0] at h
  by_cases h1:-(n:Int)<=i
  .rw[if_pos h1] at h;have e:(i+n).toNat=j:=Option.some.inj h;exact⟨by rw[seqIndex_neg (by omega) h1,e],by omega,h1,by omega⟩
  .rw[if_neg h1] at h;cases h
theorem yY {α:Type}{xs:List α}{i:Int}{v:α}(h:zj xs i=some v):∃j,seqIndex? i xs.length=some j/\xs[j]?=some v/\j<xs.length/\-(xs.length:Int)<=i/\i<xs.length:=by
 unfold zj at h;cases e:zo xs.length i with
 | none=>rw[e] at h;cases h
 | some j=>rw[e] at h;obtain⟨h1,h2,h3,h4⟩:=zG e;exact⟨j,h1,h,h2,h3,h4⟩
def JQ (b:Expr):Prop:=∀o i,subscripted b false o i=operate [o,i] (getItem o i)
def uz (X:Cx)(r:R2):Prop:=
 ∀(value slice:Expr) (pins:List (Addr×Obj)) (s:Sh) (σ:St) (H:Hp) (x y:V) (v u:Value) (Q:VK),Inv X pins σ H s->RelV x v->RelV y u->r x y H Q ->
  subscripted slice false v u=operate [v,u] (getItem v u)->wpAny (model X.prog X.w) X.A (subscriptTail value slice v u) (EP X pins σ Q) X.xe s
def PR (X:Cx)(id:String)(r:V->List V->Hp->VK->Prop):Prop:=
 ∀(pins:List (Addr×Obj)) (s:Sh) (σ:St) (H:Hp) (x:V) (xs:List V) (v:Value) (us:List Value) (Q:VK),Inv X pins σ H s->RelV x v->Vals xs us->r x xs H Q ->
  wpAny (model X.prog X.w) X.A (call (.builtin id) (v::us)) (EP X pins σ Q) X.xe s
section
variable {X:Cx}{a b:Expr}{ta tb:TE}{pos:Pos}
theorem uz.or {r r':R2}(h:uz X r)(h':uz X r'):uz X (λx y H Q=>r x y H Q\/r' x y H Q):=by
 intro value slice pins s σ H x y v u Q I rx ry q hs;rcases q with q | q
 .exact h value slice pins s σ H x y v u Q I rx ry q hs
 .exact h' value slice pins s σ H x y v u Q I rx ry q hs
theorem NR {r:R2}(hr:uz X r)(ha:PE X a ta)(hb:PE X b tb)(hs:JQ b):PE X (.Subscript a b pos) (C8 r ta tb):=by intro pins s σ H Q I h;exact Subscript_ (Gr ha hb I h λv u s2 x y H2 I2 rx ry q=>hr a b pins s2 σ H2 x y v u Q I2 rx ry q (hs _ _))
def M9 (K:Fg):R2:=λx y H Q=>∃p xs i v,x = .ref p/\y = .int i/\cm K H p xs/\zj xs i=some v/\Q v H
def Mi (K:Fg):R2:=λx y H Q=>∃p xs i v,x = .ref p/\y = .int i/\cy K H p xs/\zj xs i=some v/\Q v H
theorem Jm:uz X (M9 X.K):=by
 intro value slice pins s σ H x y v u Q I rx ry h hs;obtain⟨p,xs,i,z,rfl,rfl,hq,he,q⟩:=h;cases rx;obtain⟨t,rfl⟩:=ry;obtain⟨ai,r,pl,hz⟩:=I.list hq;obtain⟨j,h1,h2,h3,h4,h5⟩:=yY he;obtain⟨w,ew,rw'⟩:=r.get h2;have hl:=r.length;have hn:=nz;have fin:EP X pins σ Q w s:=⟨z,H,I,rw',q⟩
 by_cases h0:0<=i
 .have hj:i.toNat=j:=by rw[seqIndex_of h0 h5] at h1;exact Option.some.inj h1
  exact item_listR pl.isList h0 (by omega) (by rw[hj];simpa using ew) fin hs
 .have hj:(i+(ai.toArray.size:Int)).toNat=j:=by rw[seqIndex_neg (by omega) h4] at h1;rw[List.size_toArray,<-hl];exact Option.some.inj h1
  exact subscriptTail_builtinR (x:=w) pl.isList.typeIs slot_list_getitem.lookup
   (wpAny_getItem_list_neg (Q:=λr s'=>r=w/\EP X pins σ Q r s') pl.isList (by omega) (by rw[List.size_toArray]<;>omega) (by omega) (by rw[hj];simpa using ew) ⟨rfl,fin⟩) hs
theorem Kt:uz X (Mi X.K):=by
 intro value slice pins s σ H x y v u Q I rx ry h hs;obtain⟨p,xs,i,z,rfl,rfl,hq,he,q⟩:=h;cases rx;obtain⟨t,rfl⟩:=ry;obtain⟨ai,r,pl,hz⟩:=I.tuple hq;obtain⟨j,h1,h2,h3,h4,h5⟩:=yY he;obtain⟨w,ew,rw'⟩:=r.get h2;have hl:=r.length;have hn:=nz;have fin:EP X pins σ Q w s:=⟨z,H,I,rw',q⟩;exact subscriptTail_builtinR (x:=w) pl.typeIs slot_tuple_getitem.lookup
  (getItem_tuple (j:=j) (Q:=λr s'=>r=w/\EP X pins σ Q r s') pl (by omega) (by omega) (by rw[List.size_toArray,<-hl];exact h1) (by simpa using ew) ⟨rfl,fin⟩) hs
theorem Br (ai:List Value)(n j:Nat)(u:Value):Obj.mapSeq (·.setIfInBounds j u) { cls:=.type "list",data:=.seq ai.toArray n }={ cls:=.type "list",data:=.seq (ai.set j u).toArray n }:=by simp[Obj.mapSeq]
theorem Inv.lst {pins:List (Addr×Obj)}{σ:St}{H:Hp}{s:Sh}{p:Addr}{xs:List V}(I:Inv X pins σ H s)(h:H p=some (.lst xs)):
 ∃(ai:List Value) (n:Nat),Vals xs ai/\s.heap.get? p=some { cls:=.type "list",data:=.seq ai.toArray n }/\xs.length<=sizeLine:=by
 obtain⟨z,ai,n,r,e⟩:=I.aq p _ h;exact⟨ai,n,r,e,z⟩
theorem Inv.Lc {pins:List (Addr×Obj)}{σ:St}{H:Hp}{s:Sh}{p:Addr}{xs ys:List V}{ai its':List Value}{n n':Nat}{f:Obj->Obj}(I:Inv X pins σ H s)(h:H p=some (.lst xs))
 (ho:s.heap.get? p=some { cls:=.type "list",data:=.seq ai.toArray n }) (hf:f { cls:=.type "list",data:=.seq ai.toArray n }={ cls:=.type "list",data:=.seq its'.toArray n' }) (r:Vals ys its') (hz:ys.length<=sizeLine) (t:Nat):
 Inv X pins σ (upd H p (.lst ys)) { s with heap:=s.heap.update p f,toks:=t }:=by
 have e:(s.heap.update p f).get? p=some { cls:=.type "list",data:=.seq its'.toArray n' }:=by rw[Heap.get?_update_self f ho (by rw[hf]<;>rfl),hf]
 refine I.write (x:=p) (e:=p) (by rw[h];trivial) (.inl rfl) (λb u hb q=>(Heap.get?_update_other _ _ (Ne.symm hb)).trans q) ⟨_,e⟩ ?_;exact⟨hz,its',n',r,e⟩
def N4:V->V->V->Hp->(Hp->Prop)->Prop:=λo i v H Q=>∃p xs k j,o = .ref p/\i = .int k/\H p=some (.lst xs)/\zo xs.length k=some j/\Q (upd H p (.lst (xs.set j v)))
theorem set_list:nu X N4:=by
 intro pins s σ H o i v ov iv u Q I ro ri rv h;obtain⟨p,xs,k,j,rfl,rfl,hp,hj,q⟩:=h;cases ro;obtain⟨t,rfl⟩:=ri;obtain⟨ai,n,r,ho,hz⟩:=I.lst hp;obtain⟨h1,h2,h3,h4⟩:=zG hj;have hl:=r.length;have hn:=nz;have I':Inv X pins σ (upd H p (.lst (xs.set j v))) { s with heap:=s.heap.update p (Obj.mapSeq (·.setIfInBounds j u)) }:=
  I.Lc hp ho (Br ai n j u) (r.set rv j) (by rw[List.length_set];exact hz) s.toks
 by_cases h0:0<=k
 .have hk:k.toNat=j:=by rw[seqIndex_of h0 h4] at h1;exact Option.some.inj h1
  exact W.ki_setAt ho h0 (by omega) (by rw[List.size_toArray,<-hl];exact h4) (by rw[hk];exact⟨_,I',q⟩)
 .have hk:(k+(ai.toArray.size:Int)).toNat=j:=by rw[seqIndex_neg (by omega) h3] at h1;rw[List.size_toArray,<-hl];exact Option.some.inj h1
  exact W.ki_setBack ho (by omega) (by rw[List.size_toArray,<-hl];exact h3) (by omega) (by rw[hk];exact⟨_,I',q⟩)
theorem vY (lo hi:Option Int)(n:Nat):(sliceBounds lo hi none n).1=((HT.a9 n 0 lo:Nat):Int)/\(sliceBounds lo hi none n).2.1=((HT.a9 n n hi:Nat):Int)/\(sliceBounds lo hi none n).2.2=1:=by
 refine⟨?_,?_,rfl⟩
 .cases lo with
  | none=>simp[sliceBounds,HT.a9]
  | some i=>
   simp only[sliceBounds,HT.a9,Option.getD_none,show (1:Int) > 0 by decide,if_true]
   by_cases h:i<0
   .simp only[h,if_true]<;>omega
   .simp only[h,if_false]<;>omega
 .cases hi with
  | none=>simp[sliceBounds,HT.a9]
  | some i=>
   simp only[sliceBounds,HT.a9,Option.getD_none,show (1:Int) > 0 by decide,if_true]
   by_cases h:i<0
   .simp only[h,if_true]<;>omega
   .simp only[h,if_false]<;>omega
theorem vq (ai:List Value)(lo hi:Option Int):slicePick ai.toArray lo hi none=((ai.drop (HT.a9 ai.length 0 lo)).take (HT.a9 ai.length ai.length hi-HT.a9 ai.length 0 lo)).toArray:=by obtain⟨h1,h2,h3⟩:=vY lo hi ai.toArray.size;unfold slicePick;rw[h1,h2,h3];simp only[sliceRange_one,pick_run,List.size_toArray]<;>rfl
def Pd (K:Fg):V->Option Int->Option Int->Hp->VK->Prop:=λx lo hi H Q=>∃a xs,x = .ref a/\cm K H a xs/\∀p,H p=none->Q (.ref p) (upd H p (.lst (mB xs lo hi)))
theorem Ju:uq X (Pd X.K):=by
 intro pins s σ H x v vl vu lo hi sl Q I rx hs pl pu h;obtain⟨a,xs,rfl,hx,q⟩:=h;cases rx;obtain⟨ai,r,ht,hz⟩:=I.list hx;have hlen:=r.length;refine⟨"list",_,slot_list_getitem.lookup,ht.isList.typeIs,?_⟩;refine wpAny_getItem_list_slice ht.isList hs pl pu .none (by simp) ?_ (by rw[List.size_toArray]<;>omega)
 rw[vq,<-hlen];refine⟨.ref s.heap.objs.size,_,I.laid (t':=s.toks) (o:=.lst (mB xs lo hi)) (λb ob q=>Heap.get?_push_of_some _ q) (Nat.le_refl _) ?_,rfl,q _ (I.aq.fresh (Nat.le_refl _))⟩;exact⟨Nat.le_trans (pY xs lo hi) hz,_,0,(r.drop (HT.a9 xs.length 0 lo)).take (HT.a9 xs.length xs.length hi-HT.a9 xs.length 0 lo),Heap.get?_push_size _ rfl⟩
def fO:V->Bool
 | .aj=>true
 | .bl _=>true
 | .int _=>true
 | .str _=>true
 | _=>false
def kJ:V->V->Bool
 | .aj,.aj=>true
 | .bl a,.bl b=>a==b
 | .bl a,.int b=>(if a then 1 else 0)==b
 | .int a,.bl b=>a==(if b then 1 else 0)
 | .int a,.int b=>a==b
 | .str a,.str b=>a==b
 | _,_=>false
theorem vL {A:Around}{s:Sh}{y x:V}{u v:Value}(ry:RelV y u)(rx:RelV x v)(fy:fO y=true)(fx:fO x=true):SeqAt.EqAt A s u v (kJ y x):=by
 cases y with
 | aj=>
  cases ry;cases x with
  | aj=>cases rx;exact SeqAt.EqAt.same _
  | bl b=>cases rx;exact SeqAt.EqAt.none_bool b
  | int b=>obtain⟨t,rfl⟩:=rx;exact SeqAt.EqAt.none_int b t
  | str b=>obtain⟨t,rfl⟩:=rx;exact SeqAt.EqAt.none_str b t
  | _=>exact absurd (show false=true from fx) Bool.false_ne_true
 | bl a=>
  cases ry;cases x with
  | aj=>cases rx;exact SeqAt.EqAt.bool_none a
  | bl b=>cases rx;exact SeqAt.EqAt.bool_bool a b
  | int b=>obtain⟨t,rfl⟩:=rx;exact SeqAt.EqAt.bool_int a b t
  | str b=>obtain⟨t,rfl⟩:=rx;exact SeqAt.EqAt.bool_str a b t
  | _=>exact absurd (show false=true from fx) Bool.false_ne_true
 | int a=>
  obtain⟨t',rfl⟩:=ry;cases x with
  | aj=>cases rx;exact SeqAt.EqAt.int_none a t'
  | bl b=>cases rx;exact SeqAt.EqAt.int_bool a t' b
  | int b=>obtain⟨t,rfl⟩:=rx;exact SeqAt.EqAt.int_int a t' b t
  | str b=>obtain⟨t,rfl⟩:=rx;exact SeqAt.EqAt.int_str a t' b t
  | _=>exact absurd (show false=true from fx) Bool.false_ne_true
 | str a=>
  obtain⟨t',rfl⟩:=ry;cases x with
  | aj=>cases rx;exact SeqAt.EqAt.str_none a t'
  | bl b=>cases rx;exact SeqAt.EqAt.str_bool a t' b
  | int b=>obtain⟨t,rfl⟩:=rx;exact SeqAt.EqAt.str_int a t' b t
  | str b=>obtain⟨t,rfl⟩:=rx;exact SeqAt.EqAt.str_str a t' b t
  | _=>exact absurd (show false=true from fx) Bool.false_ne_true
 | _=>exact absurd (show false=true from fy) Bool.false_ne_true
def DH (x:V)(u:Value):Bool:=match u with
 | .none=>kJ .aj x
 | .bool b=>kJ (.bl b) x
 | .int i _=>kJ (.int i) x
 | .str z _=>kJ (.str z) x
 | _=>false
theorem Ct {x y:V}{u:Value}(r:RelV y u)(f:fO y=true):DH x u=kJ y x:=by
 cases y with
 | aj=>cases r;rfl
 | bl b=>cases r;rfl
 | int i=>obtain⟨t,rfl⟩:=r;rfl
 | str z=>obtain⟨t,rfl⟩:=r;rfl
 | _=>exact absurd (show false=true from f) Bool.false_ne_true
theorem wu {A:Around}{s:Sh}{x:V}{v:Value}(rx:RelV x v)(fx:fO x=true):∀{xs:List V} {us:List Value},Vals xs us->xs.all fO=true->∀u∈us,SeqAt.EqAt A s u v (DH x u)
 | _,_,.nil,_=>λu hu=>by cases hu
 | y::xs,u::us,.cons r t,f=>λu' hu=>by
  rw[List.all_cons,Bool.and_eq_true] at f;rcases List.mem_cons.mp hu with rfl | hu
  .rw[Ct r f.1];exact vL r rx f.1 fx
  .exact wu rx fx t f.2 u' hu
theorem wV:bS X (compareOp .NotIn) (λx y H Q=>∃i j,x = .str i/\y = .str j/\Q (.bl (!(!(Builtin.Str.occurrences j i 0 j.length 1).isEmpty))) H):=by intro pins s σ H x y v u Q I rx ry h;obtain⟨i,j,rfl,rfl,q⟩:=h;obtain⟨t,rfl⟩:=rx;obtain⟨t',rfl⟩:=ry;exact notIn_str ⟨.bl _,H,I,rfl,q⟩
theorem dt.or {f:Value}{r r':List V->Hp->VK->Prop}(h:dt X f r)(h':dt X f r'):dt X f (λxs H Q=>r xs H Q\/r' xs H Q):=by
 intro pins s σ H xs us Q I rs q;rcases q with q | q
 .exact h pins s σ H xs us Q I rs q
 .exact h' pins s σ H xs us Q I rs q
theorem wB:dt X (.type "list") (λxs H Q=>∃p ys,xs=[.ref p]/\(cm X.K H p ys\/cy X.K H p ys)/\∀l,H l=none->Q (.ref l) (upd H l (.lst ys))):=by
 intro pins s σ H xs us Q I r h;obtain⟨p,ys,rfl,hq,q⟩:=h;obtain⟨u,rfl,rx⟩:=vals1 r;cases rx;have fin:∀(ai:List Value),Vals ys ai->ys.length<=sizeLine->∀(h':Heap) (c':Nat),(∀b o',s.heap.get? b=some o'->h'.get? b=some o') ->
  h'.get? s.heap.objs.size=some { cls:=.type "list",dict:=none,data:=.seq ai.toArray c',slots:=#[] }->EP X pins σ Q (.ref s.heap.objs.size) { s with heap:=h' }:=λai r' hz h' c' kp e=>
  ⟨.ref s.heap.objs.size,_,I.laid (t':=s.toks) kp (Nat.le_refl _) (show aX X.prog X.w _ h' _ (.lst ys) from ⟨hz,ai,c',r',e⟩),rfl,q _ (I.aq.fresh (Nat.le_refl _))⟩
 rcases hq with hq | hq
 .obtain⟨ai,r',pl,hz⟩:=I.list hq;have hlen:=r'.length;obtain⟨o,ho,hc,n,hd⟩:=pl.isList;exact call_list_seq p (.inl rfl) ho hc hd (λh' c' kp e=>fin ai r' hz h' c' kp e) (by simp only[List.size_toArray]<;>omega)
 .obtain⟨ai,r',pl,hz⟩:=I.tuple hq;have hlen:=r'.length;obtain⟨o,ho,hc,n,hd⟩:=pl;exact call_list_seq p (.inr rfl) ho hc hd (λh' c' kp e=>fin ai r' hz h' c' kp e) (by simp only[List.size_toArray]<;>omega)
theorem mR:dt X (.type "tuple") (λxs H Q=>∃p ys,xs=[.ref p]/\((cm X.K H p ys/\∀l,H l=none->Q (.ref l) (upd H l (.tup ys)))\/(cy X.K H p ys/\Q (.ref p) H))):=by
 intro pins s σ H xs us Q I r h;obtain⟨p,ys,rfl,h⟩:=h;obtain⟨u,rfl,rx⟩:=vals1 r;cases rx;rcases h with⟨hq,q⟩|⟨hq,q⟩
 .obtain⟨ai,r',pl,hz⟩:=I.list hq;have hlen:=r'.length;refine call_tuple_list pl.isList (λh' kp=>?_) (by simp only[List.size_toArray]<;>omega)
  have I1:Inv X pins σ H { s with heap:=h' }:=I.kept (t':=s.toks) kp;have I2:Inv X pins σ (upd H h'.objs.size (.tup ys)) { s with heap:=h'.push { cls:=.type "tuple",data:=.seq ai.toArray } }:=
   I1.laid (t':=s.toks) (λb o e=>Heap.get?_push_of_some _ e) (Nat.le_refl _) (show aX X.prog X.w _ _ _ (.tup ys) from ⟨hz,ai,r',IsTup.new _ _⟩)
  exact⟨.ref h'.objs.size,_,I2,rfl,q _ (I1.aq.fresh (Nat.le_refl _))⟩
 .obtain⟨ai,r',pl,hz⟩:=I.tuple hq;exact call_tuple_same pl ⟨.ref p,H,I,rfl,q⟩
def OK (K:Fg)(T:String)(x:V)(H:Hp):Prop:=match x with
 | .str _=>T = "str"
 | .int _=>T = "int"
 | .ref p=>(T = "list"/\∃xs,cm K H p xs)\/(T = "tuple"/\∃o,K.lookup p=some o/\o.cls = .type "tuple"/\o.dict=none) \/
  (T = "dict"/\((∃af,H p=some (.dK af))\/∃af,H p=some (.dT af)))\/(T = "set"/\∃S n,H p=some (.set S n))
 | _=>False
theorem MF {pins:List (Addr×Obj)}{σ:St}{H:Hp}{s:Sh}{T:String}{x:V}{v:Value}(I:Inv X pins σ H s)(r:RelV x v)(ty:OK X.K T x H):
 s.TypeIs v T/\∀a,v = .ref a->∃ob,s.heap.get? a=some ob/\ob.dict=none:=by
 cases x with
 | str z=>obtain⟨t,rfl⟩:=r;cases (show T = "str" from ty);exact⟨typeIs_str s z t,λ_ e=>nomatch e⟩
 | int i=>obtain⟨t,rfl⟩:=r;cases (show T = "int" from ty);exact⟨typeIs_int s i t,λ_ e=>nomatch e⟩
 | ref p=>
  cases r;rcases ty with⟨rfl,xs,hq⟩|⟨rfl,o,hk,hc,hd⟩|⟨rfl,hk⟩|⟨rfl,S,n,hk⟩
  .obtain⟨ai,_,pl,_⟩:=I.list hq;refine⟨pl.isList.typeIs,λa e=>?_⟩;cases e;obtain⟨o,n,e,c,hd,_⟩:=pl;exact⟨o,e,hd⟩
  .refine⟨⟨o,I.d8 p o hk,hc⟩,λa e=>?_⟩;cases e;exact⟨o,I.d8 _ o hk,hd⟩
  .have z:∃o,s.heap.get? p=some o/\o.ExactDict:=by
    rcases hk with⟨af,hk⟩|⟨af,hk⟩
    .obtain⟨_,_,_,_,o,_,_,e,ex,_⟩:=I.aq p _ hk;exact⟨o,e,ex⟩
    .obtain⟨_,_,_,_,o,_,_,e,ex,_⟩:=I.aq p _ hk;exact⟨o,e,ex⟩
   obtain⟨o,e,ex⟩:=z;refine⟨⟨o,e,ex.1⟩,λa e2=>?_⟩;cases e2;exact⟨o,e,ex.2.1⟩
  .obtain⟨o,_,_,_,e,ex,_⟩:=I.aq p _ hk;refine⟨⟨o,e,ex.1⟩,λa e2=>?_⟩;cases e2;exact⟨o,e,ex.2.1⟩
 | _=>exact False.elim ty
def Qe (K:Fg)(T:String)(r:V->List V->Hp->VK->Prop)(to:TE)(t:TA):TE:=λσ H Q=>to σ H λx H1=>OK K T x H1/\t σ H1 λxs H2=>r x xs H2 Q
variable {o e:Expr}{es:List Expr}{to:TE}{t:TA}{name:Str}{apos dN:Pos}{T id:String}{r:V->List V->Hp->VK->Prop}
theorem pC (pa:PlainAttrs T)(slot:Slot T name id)(hty:typeOf (.builtin id)=pure (.type "method_descriptor"))(hm:PR X id r)(ho:PE X o to)(ha:PA X (e::es) t)
 (OB:attributeBase o name X.env (eval o X.env)=eval o X.env:=by rfl)
 (hfew:((backTo dN (starEach (e::es) X.env)).all (λx=>!x.1)&&(backToKw dN (keywordEach [] X.env)).all (λx=>x.1.isSome)
   && decide ((e::es).length+([]:List Keyword).length+(if ([]:List Keyword).isEmpty then 0 else 1)<30))=true:=by rfl)
 (OC:(apos.endLine==dN.line)=true:=by rfl) (hs:starEach (e::es) X.env=(false,eval e X.env)::starEach es X.env:=by rfl) (Ng:(backTo dN (starEach es X.env)).any (·.1)=false:=by rfl):
 PE X (.Call (.Attribute o name apos) (e::es) [] dN) (Qe X.K T r to t):=by
 intro pins s σ H Q I h;refine wpAny_Call_method_late OB hfew OC rfl (aQ (ho pins s σ H _ I h) λv s1 ⟨x,H1,I1,r1,ty,q1⟩=>?_);obtain⟨h1,h2⟩:=MF I1 r1 ty;refine⟨T,id,pa,slot,hty,h1,h2,?_⟩;have hA:=ha dN pins s1 σ H1 _ I1 q1;rw[hs] at hA ⊢;refine Calls.callWith_builtin (by show (false||(backTo dN (starEach es X.env)).any (·.1))=false;rw[Ng]<;>rfl) (Calls.evalArgs_plain ?_)
 exact aQ hA λus s2 ⟨vs,H2,I2,r2,q2⟩=>hm pins s2 σ H2 x vs v us Q I2 r1 r2 q2
end
def uh (X:Cx)(id:String)(r:V->List V->Hp->VK->Prop):Prop:=
 ∀(pins:List (Addr×Obj)) (s:Sh) (σ:St) (H:Hp) (x:V) (xs:List V) (v:Value) (us:List Value) (Q:VK),Inv X pins σ H s->RelV x v->Vals xs us->r x xs H Q ->
  wpAny (model X.prog X.w) X.A (call (.builtin id) (v::us)) (EP X pins σ Q) X.xe s
theorem Vals.one:∀{x:V} {us:List Value},Vals [x] us->∃u,us=[u]/\RelV x u
 | _,_,.cons r .nil=>⟨_,rfl,r⟩
theorem Vals.two:∀{x y:V} {us:List Value},Vals [x,y] us->∃u v,us=[u,v]/\RelV x u/\RelV y v
 | _,_,_,.cons r (.cons q .nil)=>⟨_,_,rfl,r,q⟩
theorem Vals.rep {xs:List V}{us:List Value}(h:Vals xs us):∀k:Nat,Vals (List.replicate k xs).flatten (List.replicate k us).flatten
 | 0=>.nil
 | k+1=>by rw[List.replicate_succ,List.replicate_succ,List.flatten_cons,List.flatten_cons];exact Vals.append h (Vals.rep h k)
theorem foldl_rep (ai:List Value):∀(k:Nat) (acc:List Value),
 List.foldl (λx1 x2=>x1++x2) acc.toArray (List.replicate k ai.toArray)=(acc++(List.replicate k ai).flatten).toArray
 | 0,acc=>by simp
 | k+1,acc=>by
  have e:acc.toArray++ai.toArray=(acc++ai).toArray:=by simp
  have e2:(acc++ai)++(List.replicate k ai).flatten=acc++(List.replicate (k+1) ai).flatten:=by rw[List.replicate_succ,List.flatten_cons,List.append_assoc]
  rw[<-e2,<-foldl_rep ai k (acc++ai),<-e,List.replicate_succ,List.foldl_cons]
section
variable {X:Cx}{pins:List (Addr×Obj)}{σ:St}{H:Hp}{s:Sh}{l b:Addr}{xs ys zs:List V}
theorem Inv.AD {ai its':List Value}{n:Nat}{f:Array Value->Array Value}{t':Nat}(I:Inv X pins σ H s)(hH:H l=some (.lst xs))
 (e:s.heap.get? l=some { cls:=.type "list",data:=.seq ai.toArray n }) (hf:f ai.toArray=its'.toArray) (hv:Vals ys its') (hz:ys.length<=sizeLine):
 Inv X pins σ (upd H l (.lst ys)) { s with heap:=s.heap.update l (Obj.mapSeq f),toks:=t' }:=by
 have q:=PySem.IsL.update e f;rw[hf] at q;refine I.write (x:=l) (e:=l) (by rw[hH];exact trivial) (.inl rfl) (λb' u hb hu=>(Heap.get?_update_other s.heap (Obj.mapSeq f) (Ne.symm hb)).trans hu) ⟨_,q⟩ ?_;exact⟨hz,its',_,hv,q⟩
theorem Inv.K5 {ai:List Value}{t':Nat}(I:Inv X pins σ H s)(hv:Vals ys ai)(hz:ys.length<=sizeLine):
 Inv X pins σ (upd H s.heap.objs.size (.lst ys)) { s with heap:=s.heap.push { cls:=.type "list",data:=.seq ai.toArray },toks:=t' }:=
 I.laid (λ_ _ q=>Heap.get?_push_of_some _ q) (Nat.le_refl _) ⟨hz,ai,0,hv,Heap.get?_push_size _ rfl⟩
theorem Inv.fresh (I:Inv X pins σ H s):H s.heap.objs.size=none:=I.aq.fresh (Nat.le_refl _)
theorem Inv.l9 (I:Inv X pins σ H s)(hH:H l=some (.lst xs)):xs.length<=sizeLine/\∃(ai:List Value) (n:Nat),Vals xs ai/\xs.length=ai.length/\s.heap.get? l=some { cls:=.type "list",data:=.seq ai.toArray n }:=by obtain⟨z,ai,n,r,e⟩:=I.aq l _ hH;exact⟨z,ai,n,r,r.length,e⟩
theorem xa {n:Nat}(h:n<=sizeLine):Builtin.List.listTooLong n=false:=by unfold Builtin.List.listTooLong;exact decide_eq_false (by omega)
end
section
variable {X:Cx}
def J2:V->List V->Hp->VK->Prop:=λx vs H Q=>∃l xs y,x = .ref l/\vs=[y]/\H l=some (.lst xs)/\xs.length<sizeLine/\Q .aj (upd H l (.lst (xs++[y])))
theorem Cg:uh X "list.append" J2:=by intro pins s σ H x vs v us Q I rx rv h;obtain⟨l,xs,y,rfl,rfl,hH,hz,q⟩:=h;cases rx;obtain⟨u,rfl,ru⟩:=rv.one;obtain⟨z,ai,n,r,hl,e⟩:=I.l9 hH;refine call_meets F.slot_list_append ⟨_,e,rfl⟩ F.entry_list_append (F.args_list_append_2 _ _) (PySem.list_append l ai.toArray n u (by rw[List.size_toArray];omega)) ⟨e,?_⟩;refine⟨.aj,_,I.AD (its':=ai++[u]) hH e (by simp) (r.append (.cons ru .nil)) ?_,rfl,q⟩;rw[List.length_append,List.length_singleton];omega
def Ip:V->List V->Hp->VK->Prop:=λx vs H Q=>∃l b xs zs,x = .ref l/\vs=[.ref b]/\H l=some (.lst xs)/\H b=some (.lst zs)/\xs.length+zs.length<=sizeLine/\Q .aj (upd H l (.lst (xs++zs)))
theorem Cj:uh X "list.extend" Ip:=by
 intro pins s σ H x vs v us Q I rx rv h;obtain⟨l,b,xs,zs,rfl,rfl,hH,hB,hz,q⟩:=h;cases rx;obtain⟨u,rfl,ru⟩:=rv.one;cases ru;obtain⟨z,ai,n,r,hl,e⟩:=I.l9 hH;obtain⟨z2,ff,n2,r2,hl2,e2⟩:=I.l9 hB;have hsz:ai.toArray.size+ff.toArray.size<=sizeLine:=by rw[List.size_toArray,List.size_toArray];omega
 have BB:¬(!ai.toArray.isEmpty&&Builtin.List.listTooLong (ai.toArray.size+ff.toArray.size))=true:=by rw[xa hsz,Bool.and_false];exact Bool.false_ne_true
 refine call_meets F.slot_list_extend ⟨_,e,rfl⟩ F.entry_list_extend (F.args_list_extend_2 _ _)
  (AutoSeq1.list_extend_list_list_0 l ai.toArray n b ff.toArray n2 BB (by rw[List.size_toArray];omega) (by omega)) ⟨e,e2,?_⟩
 refine⟨.aj,_,I.AD (its':=ai++ff) hH e (by simp) (r.append r2) ?_,rfl,q⟩;rw[List.length_append];omega
def LI:R2:=λx y H Q=>∃l b xs zs,x = .ref l/\y = .ref b/\H l=some (.lst xs)/\H b=some (.lst zs)/\xs.length+zs.length<=sizeLine/\∀p,H p=none->Q (.ref p) (upd H p (.lst (xs++zs)))
theorem ME:bS X (binaryOp .Add) LI:=by
 intro pins s σ H x y v u Q I rx ry h;obtain⟨l,b,xs,zs,rfl,rfl,hH,hB,hz,q⟩:=h;cases rx;cases ry;obtain⟨z,ai,n,r,hl,e⟩:=I.l9 hH;obtain⟨z2,ff,n2,r2,hl2,e2⟩:=I.l9 hB;refine PySem.P.add_list e e2 ?_ (by rw[List.size_toArray,List.size_toArray];omega);have ea:ai.toArray++ff.toArray=(ai++ff).toArray:=by simp
 rw[ea];exact⟨.ref _,_,I.K5 (t':=s.toks) (r.append r2) (by rw[List.length_append];omega),rfl,q _ I.fresh⟩
def K7:R2:=λx y H Q=>∃l k xs,x = .ref l/\y = .int k/\H l=some (.lst xs)/\-(2 ^ 63)<=k/\k<2 ^ 63/\xs.length*k.toNat<=sizeLine /\
 ∀p,H p=none->Q (.ref p) (upd H p (.lst (List.replicate k.toNat xs).flatten))
theorem len_rep {α:Type}(xs:List α)(k:Nat):(List.replicate k xs).flatten.length=k*xs.length:=by
 induction k with
 | zero=>simp
 | succ k ih=>rw[List.replicate_succ,List.flatten_cons,List.length_append,ih,Nat.succ_mul,Nat.add_comm]
theorem Mc:bS X (binaryOp .Mult) K7:=by
 intro pins s σ H x y v u Q I rx ry h;obtain⟨l,k,xs,rfl,rfl,hH,h1,h2,hz,q⟩:=h;cases rx;obtain⟨t,rfl⟩:=ry;obtain⟨z,ai,n,r,hl,e⟩:=I.l9 hH;have hlen:ai.toArray.size*k.toNat<=sizeLine:=by rw[List.size_toArray,<-hl];exact hz
 have hcap:¬ai.toArray.size*k.toNat > (2 ^ 63-1) / 8:=by
  have:(sizeLine:Nat)<=(2 ^ 63-1) / 8:=by decide
  omega
 have iQ:¬(!Builtin.List.listFitsIndex k)=true:=by rw[fitsIndex_both h1 h2];exact Bool.false_ne_true
 have BB:¬Builtin.List.listTooLong (ai.toArray.size*k.toNat)=true:=by rw[xa hlen];exact Bool.false_ne_true
 have hnew:List.foldl (λx1 x2=>x1++x2) #[] (List.replicate (if ai.toArray.isEmpty=true then 0 else k.toNat) ai.toArray)=(List.replicate k.toNat ai).flatten.toArray:=by
  have f0:∀m:Nat,List.foldl (λx1 x2=>x1++x2) #[] (List.replicate m ai.toArray)=(List.replicate m ai).flatten.toArray:=λm=>by have:=foldl_rep ai m [];rw[List.nil_append] at this;exact this
  rw[f0];cases ai with
  | nil=>simp
  | cons a r'=>rw[if_neg (by simp)]
 refine wpAny_binaryOp_repeat_ref (T:="list") (U:="int") (by decide) ⟨_,e,rfl⟩ (λs'=>typeIs_int s' k t) noFill_list_mul F.fills_int_mul F.slot_int_rmul repeat_list F.slot_int_index.lookup
  (call_meets F.slot_int_rmul (typeIs_int s k t) F.entry_int_rmul (F.args_int_rmul_2 _ _) (int___rmul___int_list k t l ai.toArray n)
    ⟨e,rfl,⟨_,e,rfl⟩,call_meets F.slot_list_mul ⟨_,e,rfl⟩ F.entry_list_mul (F.args_list_mul_2 _ _) (AutoListH.list___mul___list_int_3 l ai.toArray n k t iQ hcap BB) ⟨e,?_⟩⟩)
 rw[hnew];exact⟨.ref _,_,I.K5 (t':=s.toks) (r.rep k.toNat) (by rw[len_rep,Nat.mul_comm];exact hz),rfl,q _ I.fresh⟩
end
section
variable {prog:Program}{w:World}{A:Around}{E:Value->Sh->Prop}{s:Sh}
set_option maxRecDepth 100000 in
end
section
variable {X:Cx}
end
section
variable {κ:Type}[DecidableEq κ]
def cV (af:List (κ×V))(k:κ):Option V:=(af.find? λkv=>decide (kv.1=k)).map (·.2)
def putK (af:List (κ×V))(k:κ)(v:V):List (κ×V):=
 if (af.any λkv=>decide (kv.1=k))=true then af.map (λkv=>if kv.1=k then (kv.1,v) else kv) else af++[(k,v)]
def dr (af:List (κ×V))(k:κ):List (κ×V):=af.filter λkv=>decide (kv.1≠k)
theorem ka {p:κ×V}{r:List (κ×V)}{k:κ}(e:p.1=k):cV (p::r) k=some p.2:=by simp[cV,List.find?_cons,e]
theorem kg {p:κ×V}{r:List (κ×V)}{k:κ}(e:¬p.1=k):cV (p::r) k=cV r k:=by simp[cV,List.find?_cons,e]
theorem qo (k:κ):∀af:List (κ×V),(af.any λkv=>decide (kv.1=k))=(cV af k).isSome
 | []=>rfl
 | p::r=>by
  rw[List.any_cons]
  by_cases e:p.1=k
  .simp only[ka e,decide_eq_true e,Bool.true_or,Option.isSome_some]
  .rw[kg e,decide_eq_false e,Bool.false_or];exact qo k r
theorem p7 (af:List (κ×V))(k:κ)(v:V):(putK af k v).length<=af.length+1:=by
 unfold putK;split
 .rw[List.length_map];omega
 .rw[List.length_append,List.length_cons,List.length_nil];omega
theorem fK.fX {o:Option V}{u:Option Value}(r:fK o u):o.isSome=u.isSome:=by
 cases o with
 | none=>cases u with
  | none=>rfl
  | some _=>exact(show False from r).elim
 | some _=>cases u with
  | none=>exact(show False from r).elim
  | some _=>rfl
theorem KV.val {af:List (κ×V)}{vs:List (κ×Value)}(r:KV af vs)(k:κ):fK (cV af k) (valueAt vs k):=by
 unfold KV at r
 induction r with
 | nil=>exact True.intro
 | @cons p q ps qs h t ih=>
  obtain⟨h1,h2⟩:=h
  by_cases e:p.1=k
  .have e':q.1=k:=h1.symm.trans e;have b:valueAt (q::qs) k=some q.2:=by simp[valueAt,List.find?_cons,e']
   rw[ka e,b];exact h2
  .have e':¬q.1=k:=λz=>e (h1.trans z);have b:valueAt (q::qs) k=valueAt qs k:=by simp[valueAt,List.find?_cons,e']
   rw[kg e,b];exact ih
theorem KV.any {af:List (κ×V)}{vs:List (κ×Value)}(r:KV af vs)(k:κ):(af.any λkv=>decide (kv.1=k))=vs.any λkv=>decide (kv.1=k):=by
 unfold KV at r
 induction r with
 | nil=>rfl
 | cons h t ih=>rw[List.any_cons,List.any_cons,ih,h.1]
theorem KV.w5 {af:List (κ×V)}{vs:List (κ×Value)}(r:KV af vs)(k:κ){y:V}{u:Value}(ry:RelV y u):
 KV (af.map λkv=>if kv.1=k then (kv.1,y) else kv) (vs.map λkv=>if kv.1=k then (kv.1,u) else kv):=by
 unfold KV at r ⊢
 induction r with
 | nil=>exact .nil
 | @cons p q ps qs h t ih=>
  rw[List.map_cons,List.map_cons];refine .cons ?_ ih;obtain⟨h1,h2⟩:=h
  by_cases e:p.1=k
  .rw[if_pos e,if_pos (h1.symm.trans e)];exact⟨h1,ry⟩
  .rw[if_neg e,if_neg (λz=>e (h1.trans z))];exact⟨h1,h2⟩
theorem KV.put {af:List (κ×V)}{vs:List (κ×Value)}(r:KV af vs)(k:κ){y:V}{u:Value}(ry:RelV y u):KV (putK af k y) (stored vs k u):=by
 unfold putK stored;rw[r.any k]
 by_cases e:(vs.any λkv=>decide (kv.1=k))=true
 .rw[if_pos e,if_pos e];exact r.w5 k ry
 .rw[if_neg e,if_neg e];exact Paired.snoc r ⟨rfl,ry⟩
theorem KV.drop {af:List (κ×V)}{vs:List (κ×Value)}(r:KV af vs)(k:κ):KV (dr af k) (without vs k):=by
 unfold KV at r ⊢;unfold dr without
 induction r with
 | nil=>exact .nil
 | @cons p q ps qs h t ih=>
  obtain⟨h1,h2⟩:=h;rw[List.filter_cons,List.filter_cons]
  by_cases e:p.1=k
  .have a:¬decide (p.1≠k)=true:=by simp[e]
   have b:¬decide (q.1≠k)=true:=by simp[h1.symm.trans e]
   rw[if_neg a,if_neg b];exact ih
  .have e':¬q.1=k:=λz=>e (h1.trans z);have a:decide (p.1≠k)=true:=by simp[e]
   have b:decide (q.1≠k)=true:=by simp[e']
   rw[if_pos a,if_pos b];exact .cons ⟨h1,h2⟩ ih
theorem KV.length {af:List (κ×V)}{vs:List (κ×Value)}(r:KV af vs):af.length=vs.length:=Paired.length r
theorem xf (af:List (κ×V))(k:κ):(dr af k).length<=af.length:=List.length_filter_le _ _
end
theorem oS {P:Program}{w:World}{k:Key}{u:Value}(r:RelV (kV k) u):(aV P w).is k u=true:=by
 cases k with
 | inl i=>obtain⟨t,e⟩:=(show ∃t,u=Value.int i t from r);subst e;exact yA P w i t
 | inr x=>obtain⟨t,e⟩:=(show ∃t,u=Value.str x t from r);subst e;exact yy P w x t
theorem uu {P:Program}{w:World}:∀{ks:List Key} {us:List Value},Vals (ks.map kV) us->ItemsAre (aV P w) ks us
 | [],_,r=>by rw[List.map_nil] at r;cases r;exact .nil
 | k::ks,_,r=>by
  rw[List.map_cons] at r;cases r with
  | cons h t=>exact .cons (oS h) (uu t)
abbrev KT (H:Hp):List (List Key×V)->List (List Key×Addr×Value)->Prop:=Paired λp q=>p.1=q.1/\H q.2.1=some (.tup (p.1.map kV))/\RelV p.2 q.2.2
theorem KT.val {H:Hp}{af:List (List Key×V)}{xs:List (List Key×Addr×Value)}(r:KT H af xs)(k:List Key):fK (cV af k) ((atKey xs k).map (·.2)):=by
 induction r with
 | nil=>exact True.intro
 | @cons p q ps qs h t ih=>
  obtain⟨h1,_,h2⟩:=h
  by_cases e:p.1=k
  .have e':q.1=k:=h1.symm.trans e;have b:atKey (q::qs) k=some q.2:=by simp[atKey,List.find?_cons,e']
   rw[ka e,b];exact h2
  .have e':¬q.1=k:=λz=>e (h1.trans z);have b:atKey (q::qs) k=atKey qs k:=by simp[atKey,List.find?_cons,e']
   rw[kg e,b];exact ih
theorem KT.w5 {H:Hp}{af:List (List Key×V)}{xs:List (List Key×Addr×Value)}(r:KT H af xs)(k:List Key){y:V}{u:Value}(ry:RelV y u):
 KT H (af.map λkv=>if kv.1=k then (kv.1,y) else kv) (xs.map (putAt k u)):=by
 induction r with
 | nil=>exact .nil
 | @cons p q ps qs h t ih=>
  rw[List.map_cons,List.map_cons];refine .cons ?_ ih;obtain⟨h1,h2,h3⟩:=h;unfold putAt
  by_cases e:p.1=k
  .rw[if_pos e,if_pos (h1.symm.trans e)];exact⟨h1,h2,ry⟩
  .rw[if_neg e,if_neg (λz=>e (h1.trans z))];exact⟨h1,h2,h3⟩
theorem KT.put {H:Hp}{af:List (List Key×V)}{xs:List (List Key×Addr×Value)}(r:KT H af xs)(k:List Key){b:Addr}{y:V}{u:Value}(hb:H b=some (.tup (k.map kV)))(ry:RelV y u):
 KT H (putK af k y) (storedH xs k b u):=by
 have e:(af.any λkv=>decide (kv.1=k))=(atKey xs k).isSome:=by rw[qo,(r.val k).fX,Option.isSome_map]
 unfold putK storedH;rw[e]
 by_cases q:(atKey xs k).isSome=true
 .rw[if_pos q,if_pos q];exact r.w5 k ry
 .rw[if_neg q,if_neg q];exact Paired.snoc r ⟨rfl,hb,ry⟩
theorem KT.keeps {H H':Hp}{af:List (List Key×V)}{xs:List (List Key×Addr×Value)}(r:KT H af xs)(ht:∀b ys,H b=some (.tup ys)->H' b=some (.tup ys)):KT H' af xs:=
 Paired.nN r λ_ _ z=>⟨z.1,ht _ _ z.2.1,z.2.2⟩
section
variable {P:Program}{w:World}{H:Hp}{h:Heap}{a:Addr}
theorem Hn {u:HO}(ok:aT P w H h)(e:Rd H a u):aX P w H h a u:=e.ok ok
theorem mx {af:List (Key×V)}(ok:aT P w H h)(e:Rd H a (.dK af)):af.length<=sizeLine/\(a==sysModules)=false/\∃vs,KV af vs/\h.DictOf (aV P w) a vs:=
 show aX P w H h a (.dK af) from Hn ok e
theorem Ht {af:List (Key×V)}(ok:aT P w H h)(e:H a=some (.dK af)):af.length<=sizeLine/\(a==sysModules)=false/\∃vs,KV af vs/\h.DictOf (aV P w) a vs:=mx ok (.inl e)
theorem iZ {ks:List Key}(ok:aT P w H h)(e:H a=some (.tup (ks.map kV))):(tupleKind (aV P w)).is h ks a:=by obtain⟨_,ai,r,o,h1,h2,n,h3⟩:=(show aX P w H h a (.tup (ks.map kV)) from ok a _ e);exact⟨o,ai.toArray,n,h1,h2,h3,by simpa using uu r⟩
theorem oY {af:List (List Key×V)}(ok:aT P w H h)(e:Rd H a (.dT af)):af.length<=sizeLine/\(a==sysModules)=false /\
 ∃xs,KT H af xs/\h.DictOfH (tupleKind (aV P w)) a xs:=by
 obtain⟨z,y,xs,r,o,es,ep,h1,h2,h3,h4,h5⟩:=(show aX P w H h a (.dT af) from Hn ok e);refine⟨z,y,xs,r,o,es,ep,h1,h2,h3,h4,λx hx=>?_,h5⟩;have all:∀{l:List (List Key×V)} {m:List (List Key×Addr×Value)},KT H l m->∀x∈m,(tupleKind (aV P w)).is h x.1 x.2.1:=by
  intro l m q
  induction q with
  | nil=>intro x hx;exact nomatch hx
  | @cons p q ps qs hq t ih=>
   intro x hx;rcases List.mem_cons.mp hx with e | hx
   .subst e;exact iZ ok (by rw[<-hq.1];exact hq.2.1)
   .exact ih x hx
 exact all r x hx
theorem rn {af:List (List Key×V)}(ok:aT P w H h)(e:H a=some (.dT af)):af.length<=sizeLine/\(a==sysModules)=false /\
 ∃xs,KT H af xs/\h.DictOfH (tupleKind (aV P w)) a xs:=oY ok (.inl e)
end
def iM (H:Hp)(a:Addr)(y:V)(r:Option V):Prop:=
 (∃af k,Rd H a (.dK af)/\y=kV k/\r=cV af k)\/∃af k b,Rd H a (.dT af)/\y = .ref b/\H b=some (.tup (k.map kV))/\r=cV af k
def nB (H:Hp)(a:Addr)(y v:V)(H':Hp):Prop:=
 (∃af k,H a=some (.dK af)/\y=kV k/\af.length<sizeLine/\H'=upd H a (.dK (putK af k v))) \/
 ∃af k b,H a=some (.dT af)/\y = .ref b/\H b=some (.tup (k.map kV))/\af.length<sizeLine/\H'=upd H a (.dT (putK af k v))
theorem iM.k {H:Hp}{a:Addr}{af:List (Key×V)}{k:Key}(e:H a=some (.dK af)):iM H a (kV k) (cV af k):=.inl ⟨af,k,.inl e,rfl,rfl⟩
theorem iM.t {H:Hp}{a b:Addr}{af:List (List Key×V)}{k:List Key}(e:H a=some (.dT af))(eb:H b=some (.tup (k.map kV))):iM H a (.ref b) (cV af k):=.inr ⟨af,k,b,.inl e,rfl,eb,rfl⟩
theorem nB.k {H:Hp}{a:Addr}{af:List (Key×V)}{k:Key}{v:V}(e:H a=some (.dK af))(hl:af.length<sizeLine):nB H a (kV k) v (upd H a (.dK (putK af k v))):=.inl ⟨af,k,e,rfl,hl,rfl⟩
theorem nB.t {H:Hp}{a b:Addr}{af:List (List Key×V)}{k:List Key}{v:V}(e:H a=some (.dT af))(eb:H b=some (.tup (k.map kV)))(hl:af.length<sizeLine):
 nB H a (.ref b) v (upd H a (.dT (putK af k v))):=.inr ⟨af,k,b,e,rfl,eb,hl,rfl⟩
section
variable {X:Cx}{pins:List (Addr×Obj)}{σ:St}{H:Hp}{s:Sh}{a:Addr}{y v:V}{u r:Value}{o:Option V}{A:Around}{E:Value->Sh->Prop}
theorem Inv.big (I:Inv X pins σ H s):sysModules<s.heap.objs.size:=by have h:mainGlobals<s.heap.objs.size:=(I.mod.glob.keeps I.bk).lt;exact Nat.lt_trans (by decide) h
theorem CP {Q:Value->Sh->Prop}(hu:A.units+1<cLine)(I:Inv X pins σ H s)(g:iM H a y (some v))(ry:RelV y u)(h:∀w' s',Inv X pins σ H s'->RelV v w'->Q w' s'):
 wpAny (model X.prog X.w) A (getItem (.ref a) u) Q E s:=by
 rcases g with⟨af,k,e,ey,l⟩|⟨af,k,b,e,ey,eb,l⟩
 .subst ey;obtain⟨z,hd,vs,rel,dd⟩:=mx I.aq e;obtain⟨w',hw,rw'⟩:=fK.some_of (v:=v) (o:=valueAt vs k) (by rw[l];exact rel.val k);exact wpAny_getItem_of (oS ry) dd.mapOf hw (h w' _ (I.tok _) rw')
 .subst ey;cases (show u=Value.ref b from ry);obtain⟨z,hd,xs,rel,dd⟩:=oY I.aq e;obtain⟨w',hw,rw'⟩:=fK.some_of (v:=v) (o:=(atKey xs k).map (·.2)) (by rw[l];exact rel.val k);obtain⟨p,hp,uW⟩:=Option.map_eq_some_iff.mp hw;refine wpAny_getItem_heap (tupleKind_room_in1 hu) (iZ I.aq eb) dd hp ?_;rw[uW];exact h w' _ (I.tok _) rw'
theorem Pq {Q:Value->Sh->Prop}(hu:A.units+1<cLine)(I:Inv X pins σ H s)(g:iM H a y o)(ry:RelV y u)(h:∀s',Inv X pins σ H s'->Q (.bool o.isSome) s'):
 wpAny (model X.prog X.w) A (compareOp .In u (.ref a)) Q E s:=by
 rcases g with⟨af,k,e,ey,l⟩|⟨af,k,b,e,ey,eb,l⟩
 .subst ey;obtain⟨z,hd,vs,rel,dd⟩:=mx I.aq e;refine wpAny_in_of (oS ry) hd dd.mapOf ?_;rw[<-(rel.val k).fX,<-l];exact h _ (I.tok _)
 .subst ey;cases (show u=Value.ref b from ry);obtain⟨z,hd,xs,rel,dd⟩:=oY I.aq e;refine wpAny_in_heap (tupleKind_room_in1 hu) (iZ I.aq eb) hd dd ?_;have q:=(rel.val k).fX;rw[Option.isSome_map] at q;rw[<-q,<-l];exact h _ (I.tok _)
theorem IQ {Q:Value->Sh->Prop}(hu:A.units+1<cLine)(I:Inv X pins σ H s)(g:iM H a y o)(ry:RelV y u)(h:∀s',Inv X pins σ H s'->Q (.bool (!o.isSome)) s'):
 wpAny (model X.prog X.w) A (compareOp .NotIn u (.ref a)) Q E s:=by
 rcases g with⟨af,k,e,ey,l⟩|⟨af,k,b,e,ey,eb,l⟩
 .subst ey;obtain⟨z,hd,vs,rel,dd⟩:=mx I.aq e;refine wpAny_notIn_of (oS ry) hd dd.mapOf ?_;rw[<-(rel.val k).fX,<-l];exact h _ (I.tok _)
 .subst ey;cases (show u=Value.ref b from ry);obtain⟨z,hd,xs,rel,dd⟩:=oY I.aq e;refine wpAny_notIn_heap (tupleKind_room_in1 hu) (iZ I.aq eb) hd dd ?_;have q:=(rel.val k).fX;rw[Option.isSome_map] at q;rw[<-q,<-l];exact h _ (I.tok _)
theorem lL {h':Heap}{t':Nat}{ob:HO}(I:Inv X pins σ H s)(mu:yU (H a))(hs:Heap.SameBut a s.heap h')(he:∃q,h'.get? a=some q)(new:aX X.prog X.w (upd H a ob) h' a ob):
 Inv X pins σ (upd H a ob) { s with heap:=h',toks:=t' }:=
 I.write (x:=a) (e:=a) mu (.inl rfl) (λb q hb z=>(hs.2 b hb).trans z) he new
theorem Ce {P:Program}{w:World}{H':Hp}{h':Heap}{af:List (Key×V)}{vs:List (Key×Value)}(z:af.length<=sizeLine)(hd:(a==sysModules)=false)(rel:KV af vs)(dd:h'.DictOf (aV P w) a vs):
 aX P w H' h' a (.dK af):=⟨z,hd,vs,rel,dd⟩
theorem BZ {H':Hp}{Q:Unit->Sh->Prop}(hu:A.units+1<cLine)(I:Inv X pins σ H s)(g:nB H a y v H')(ry:RelV y u)(rv:RelV v r)(h:∀s',Inv X pins σ H' s'->Q () s'):
 wpAny (model X.prog X.w) A (setItem (.ref a) u r) Q E s:=by
 rcases g with⟨af,k,e,ey,l,eH⟩|⟨af,k,b,e,ey,eb,l,eH⟩
 .subst ey eH;obtain⟨z,hd,vs,rel,dd⟩:=Ht I.aq e;have hz:vs.length<=sizeLine:=by rw[<-rel.length];exact z
  have hl:(putK af k v).length<=sizeLine:=by have:=p7 af k v;omega
  refine wpAny_setItem_pairs (hsz:=hz) (oS ry) dd λh' mW hs=>h _ ?_;have he:∃q,h'.get? a=some q:=let ⟨q,_,_,hq,_⟩:=mW;⟨q,hq⟩
  exact lL I (by rw[e];exact True.intro) hs he (Ce hl hd (rel.put k rv) mW)
 .subst ey eH;cases (show u=Value.ref b from ry);obtain⟨z,hd,xs,rel,dd⟩:=rn I.aq e;have hz:xs.length<=sizeLine:=by rw[<-Paired.length rel];exact z
  have hl:(putK af k v).length<=sizeLine:=by have:=p7 af k v;omega
  refine wpAny_setItem_heap (hsz:=hz) (tupleKind_room_in1 hu) (iZ I.aq eb) dd λh' mW hs=>h _ ?_;obtain⟨q,es,ep,hq,h2,h3,h4,_,h5⟩:=mW;refine lL I (by rw[e];exact True.intro) hs ⟨q,hq⟩ ⟨hl,hd,_,(rel.put k eb rv).keeps λc ys ec=>?_,q,es,ep,hq,h2,h3,h4,h5⟩;rw[ax (ib ec e (λz=>nomatch z))];exact ec
end
section
variable {X:Cx}{pins:List (Addr×Obj)}{σ:St}{H:Hp}{s:Sh}{a:Addr}{af:List (Key×V)}{k:Key}{u:Value}{A:Around}{E:Value->Sh->Prop}
theorem Dy {Q:Unit->Sh->Prop}(I:Inv X pins σ H s)(e:H a=some (.dK af))(ry:RelV (kV k) u)(l:(cV af k).isSome=true)(h:∀s',Inv X pins σ (upd H a (.dK (dr af k))) s'->Q () s'):
 wpAny (model X.prog X.w) A (delItem (.ref a) u) Q E s:=by
 obtain⟨z,hd,vs,rel,dd⟩:=Ht I.aq e;refine wpAny_delItem_slot dd.typeIs (by decide) PySem.F.slot_dict_delitem
  (call_meetsIn PySem.F.slot_dict_delitem dd.typeIs PySem.F.entry_dict_delitem (PySem.F.args_dict_delitem_2 _ _) (meets_dict_delitem_pairs (aV X.prog X.w) a (oS ry)) ⟨vs,dd,by rw[<-rel.length];exact z,by rw[<-(rel.val k).fX];exact l,λh' mW hs=>h _ ?_⟩)
 have he:∃q,h'.get? a=some q:=let ⟨q,_,_,hq,_⟩:=mW;⟨q,hq⟩
 exact lL I (by rw[e];exact True.intro) hs he (Ce (Nat.le_trans (xf af k) z) hd (rel.drop k) mW)
theorem Om {Q:Value->Sh->Prop}(I:Inv X pins σ H s)(e:Rd H a (.dK af))(h:∀t s',Inv X pins σ H s'->Q (.int af.length t) s'):wpAny (model X.prog X.w) A (call (.builtin "len") [.ref a]) Q E s:=by obtain⟨z,hd,vs,rel,dd⟩:=mx I.aq e;refine call_len_dict hd dd (by rw[<-rel.length];rw[sizeLine_eq] at z;omega) ?_;rw[<-rel.length];exact h _ _ (I.tok _)
end
theorem yD {X:Cx}{pins:List (Addr×Obj)}{σ:St}{H:Hp}{s:Sh}{a:Addr}{y:V}{o:Option V}(I:Inv X pins σ H s)(g:iM H a y o):s.TypeIs (.ref a) "dict":=by
 rcases g with⟨af,k,e,_,_⟩|⟨af,k,b,e,_,_,_⟩
 .obtain⟨_,_,vs,_,dd⟩:=mx I.aq e;exact dd.typeIs
 .obtain⟨_,_,xs,_,dd⟩:=oY I.aq e;exact dd.typeIs
section
variable {X:Cx}{o i e value:Expr}{pos pos' Bz:Pos}{td ty tv:TE}
end
theorem E7 {P:Program}{w:World}{H:Hp}(h:Heap)(hb:sysModules<h.objs.size):aX P w H (h.push { cls:=.type "dict",data:=.dict #[] }) h.objs.size (.dT []):=
 ⟨Nat.zero_le _,beq_eq_false_iff_ne.mpr (Ne.symm (Nat.ne_of_lt hb)),[],.nil,_,#[],0,Heap.get?_push_size _ rfl,⟨rfl,rfl,rfl⟩,rfl,rfl,List.nodup_nil⟩
def Ke:TE:=λ_ H Q=>∀p,H p=none->Q (.ref p) (upd H p (.dT []))
section
variable {X:Cx}{pos:Pos}
theorem F9:PE X (.Dict [] [] pos) Ke:=λpins s σ H Q I h=>
 wpAny_Dict_empty ⟨.ref s.heap.objs.size,_,I.laid (a:=s.heap.objs.size) (o:=.dT []) (t':=s.toks) (λ_ _ q=>Heap.get?_push_of_some _ q) (Nat.le_refl _) (E7 s.heap I.big),rfl,h _ (I.aq.fresh (Nat.le_refl _))⟩
end
structure M1 (X:Cx)(o:Expr)(m:Str)(apos:Pos)(e:Expr)(dN:Pos):Prop where
 base:attributeBase o m X.env (eval o X.env)=eval o X.env
 few:((backTo dN (starEach [e] X.env)).all (λx=>!x.1)&&(backToKw dN (keywordEach [] X.env)).all (λx=>x.1.isSome)
  && decide (([e]:List Expr).length+([]:List Keyword).length+(if ([]:List Keyword).isEmpty then 0 else 1)<30))=true
 line:(apos.endLine==dN.line)=true
 trees:backTo dN (starEach [e] X.env)=[(false,eval e X.env)]
structure M2 (X:Cx)(o:Expr)(m:Str)(apos:Pos)(e f:Expr)(dN:Pos):Prop where
 base:attributeBase o m X.env (eval o X.env)=eval o X.env
 few:((backTo dN (starEach [e,f] X.env)).all (λx=>!x.1)&&(backToKw dN (keywordEach [] X.env)).all (λx=>x.1.isSome)
  && decide (([e,f]:List Expr).length+([]:List Keyword).length+(if ([]:List Keyword).isEmpty then 0 else 1)<30))=true
 line:(apos.endLine==dN.line)=true
 trees:backTo dN (starEach [e,f] X.env)=[(false,eval e X.env),(false,eval f X.env)]
def MJ (H:Hp)(a:Addr):Prop:=(∃af,Rd H a (.dK af))\/∃af,Rd H a (.dT af)
theorem Ds {X:Cx}{pins:List (Addr×Obj)}{σ:St}{H:Hp}{s:Sh}{a:Addr}(I:Inv X pins σ H s)(d:MJ H a):
 s.TypeIs (.ref a) "dict"/\(∀b,Value.ref a = .ref b->∃ob,s.heap.get? b=some ob/\ob.dict=none)/\(a==sysModules)=false:=by
 rcases d with⟨af,e⟩|⟨af,e⟩
 .obtain⟨_,hd,vs,_,dd⟩:=mx I.aq e;refine⟨dd.typeIs,λb q=>?_,hd⟩;cases q;obtain⟨ob,_,_,h1,h2,_⟩:=dd;exact⟨ob,h1,h2.2.1⟩
 .obtain⟨_,hd,xs,_,dd⟩:=oY I.aq e;refine⟨dd.typeIs,λb q=>?_,hd⟩;cases q;obtain⟨ob,_,_,h1,h2,_⟩:=dd;exact⟨ob,h1,h2.2.1⟩
section
variable {X:Cx}{pins:List (Addr×Obj)}{σ:St}{H:Hp}{s:Sh}{a:Addr}{y d:V}{u r:Value}{o:Option V}{A:Around}{E:Value->Sh->Prop}
end
section
variable {X:Cx}{o e f:Expr}{apos dN:Pos}{td ty tx:TE}
end
section
variable {X:Cx}{pins:List (Addr×Obj)}{σ:St}{H:Hp}{s:Sh}{a:Addr}{af:List (Key×V)}{A:Around}{E:Value->Sh->Prop}
end
section
variable {X:Cx}{pins:List (Addr×Obj)}{σ:St}{H:Hp}{s:Sh}{a:Addr}{y:V}{u:Value}{A:Around}{E:Value->Sh->Prop}
end
end L2
namespace Att
open PySem PySem.W PySem.Calls PyProof.Rows
theorem qW {P:Params}{h:Heap}:∀(ns:List Int) (vs:List Value),WellAll P h vs (ns.map WData.int)->IntsAre vs ns:=by
 intro ns
 induction ns with
 | nil=>intro vs w;rw[List.map_nil] at w;cases w;exact .nil
 | cons n ns ih=>
  intro vs w;rw[List.map_cons] at w;cases w with
  | cons a b=>cases a;exact .cons _ _ (ih _ b)
theorem DG {l:OpenLaw}{n:Nat}(hn:l.most=some n){P:Params}{h:Heap}{args:List WData}{vals:List Value}
 (BC:l.row.toRowW.claim.pre args=true) (mX:WellAll P h vals args):
 ∃a vs ns,vals=[Value.ref a]/\args=[WData.list (ns.map WData.int)]/\h.get? a=some { cls:=.type "list",data:=.seq vs.toArray }/\IntsAre vs ns/\ns.length<=n:=by
 have mY:WShape.hasAll [] args [.list .int]=true:=(pre_splitW BC).1;have hc:l.pre.holds [] { args:=args }=true:=(pre_splitW BC).2;obtain⟨d,r,rfl,h1,h2⟩:=hasAllW_cons mY;obtain rfl:=hasAllW_nil h2;obtain⟨xs,rfl,h3⟩:=hasW_list h1;obtain⟨ns,rfl⟩:=items_int h3;have hlen:ns.length<=n:=by
  unfold OpenLaw.pre at hc;have h4:(WTm.not (.lt (.lit (.int (n:Int))) (.len (.arg 0)))).holds [] { args:=[.list (ns.map .int)] }=true:=by have h4:=(holds_andW hc).1;rw[hn] at h4;exact h4
  have h5:=condW_of h4 (w_not (w_lt w_lit (w_len_list (w_arg rfl))));rw[List.length_map] at h5;refine Nat.le_of_not_lt λq=>?_;have q':(n:Int)<((ns.length:Nat):Int):=by omega
  first
   | (rw[decide_eq_true q'] at h5;exact absurd h5 (by decide))
   | (simp at h5;omega)
 cases mX with
 | cons w1 w2=>
  cases w2;cases w1 with
  | list ho gb=>exact⟨_,_,ns,rfl,rfl,ho,qW ns _ gb,hlen⟩
theorem B0 (l:OpenLaw)(args:List WData):l.row.toRowW.claim.post args (.bool true) args=true:=
 postW_of (r:=l.row.toRowW) (X:=(true==true))
  (show WShape.has [] (.bool true) .bool=true by first | rfl | decide | simp[WShape.has,WShape.arms,WShape.armsAll])
  (show (WTm.eq .res (.lit (.bool true))).value [] { args:=args,res:=some (.bool true),after:=args }=some (.bool (true==true)) from w_eq_bool (w_res rfl) w_lit) rfl
theorem yo {l:OpenLaw}{n:Nat}{q:Program}{loose:List Str}{XP:(Str->Option Value)->Heap->Prop}{YP:World->Heap->Prop}{d:DefRec}
 (hn:l.most=some n) (DT:d.params.defaults=[])
 (call:∀(w:World) (s₀ s₁:Sh) (mg mb:Str->Option Value) (fa:Addr) (o:Obj) (pm cd doc:Value) (a:Addr) (vs:List Value) (ns:List Int),
   Ground q loose [] XP w s₀ mg mb s₁.heap->YP w s₁.heap ->
   s₁.heap.get? fa=some o->o.data = .func (docDef d.name d.params d.body d.scope pm cd doc)->s₁.heap.CodeRec cd d.name->mg d.name=some (.ref fa) ->
   s₁.heap.get? a=some { cls:=.type "list",data:=.seq vs.toArray }->IntsAre vs ns->ns.length<=n->s₁.gens = #[] ->
   codeAny (model l.prog w) callerA (.call (.ref fa) ⟨[.ref a],[]⟩) (λr s'=>r = .ok (.ret (.bool true))/\OldK s₁.heap s'.heap/\s'.os=s₁.os/\AllBare s'.gens) s₁):
 WalkO q loose XP YP l.row.toRowW d [] (λf vs=>PySem.call f vs):=by
 intro w s₀ s₁ mg mb G Y fa o pm cd doc dV kV ho hd sI hD DU hg args vals as BC hlay hrd mX hlo;obtain rfl:dV = .none:=Dflts.none hD DT;obtain rfl:kV = .none:=Dflts.noKw hD;obtain⟨a,vs,ns,rfl,rfl,Gu,hints,hlen⟩:=DG hn BC mX;refine enter_call (codeAny_mono (call w s₀ s₁ mg mb fa o pm cd doc a vs ns G Y ho (fd_plain hd) sI DU Gu hints hlen hg) λr s' hq=>?_);obtain⟨rfl,h2,h3,h4⟩:=hq;exact⟨.inl ⟨.bool true,.bool true,[],rfl,λ_=>rfl,.bool true,B0 l _,λ_=>⟨List.Pairwise.nil,λ_ hm=>(nomatch hm)⟩⟩,h2,h3,h4⟩
section
variable {prog:Program}{w:World}{A:Around}{E:Value->Sh->Prop}{s:Sh}{K:Frag}
end
end Att
namespace L2
open PySem PySem.Spec PyProof.Rows
theorem um:∀{vs:List Value} {ns:List Int},IntsAre vs ns->Vals (ns.map V.int) vs
 | _,_,.nil=>.nil
 | _,_,.cons n t h=>.cons ⟨t,rfl⟩ (um h)
abbrev E0:XK:=λ_ _ _=>False
structure fV (K:Fg)(x qual:Str)(st:Stmt)(f:Addr)(fd:FuncData):Prop where
 ex:∃(oc:Value) (od:Option Addr) (kV doc pm:Value) (an:Option Addr) (g8 ct:Value) (uT:Array (Option Value)),
  fd=W.fnOf x qual (cP st) (cz st) (bo st) .none kV doc pm an g8 ct/\K.lookup f=some ⟨oc,od,.func fd,uT⟩/\W.codeIn K g8 qual=true
 kp:W.keepIn K (.ref f)=true
section
variable {P:Program}{w:World}{K:Fg}{mg:Str->Option Value}{base:Heap}
theorem fV.binds {x qual:Str}{st:Stmt}{f:Addr}{fd:FuncData}{ps:List Str}(F:fV K x qual st f fd)
 (h:∀(kV doc pm:Value) (an:Option Addr) (g8 ct:Value) (us:List Value),us.length=ps.length->bindArgs (W.fnOf x qual (cP st) (cz st) (bo st) .none kV doc pm an g8 ct) ⟨us,[]⟩=pure (ps.zip us)):Binds K fd ps []:=by
 obtain⟨oc,od,kV,doc,pm,an,g8,ct,uT,rfl,lk,sI⟩:=F.ex;exact .all (h kV doc pm an g8 ct)
theorem rP {x qual:Str}{st:Stmt}{f:Addr}{oc:Value}{od an:Option Addr}{uT:Array (Option Value)}{kV doc pm g8 ct:Value}(l:K.lookup f=some ⟨oc,od,.func (W.fnOf x qual (cP st) (cz st) (bo st) .none kV doc pm an g8 ct),uT⟩)
 (c:W.codeIn K g8 qual=true) (k:W.keepIn K (.ref f)=true):fV K x qual st f (W.fnOf x qual (cP st) (cz st) (bo st) .none kV doc pm an g8 ct):=⟨⟨oc,od,kV,doc,pm,an,g8,ct,uT,rfl,l,c⟩,k⟩
end
theorem NG {A:Around}{k:Nat}(hr:cO k A):A.units+1<cLine:=Nat.lt_of_le_of_lt (Nat.add_le_add_left (by decide:1<=64) _) hr.units
section
variable {X:Cx}
end
theorem qE {A B:Prop}(h:B):if false=true then A else B:=by rw[if_neg Bool.false_ne_true];exact h
theorem qj {A B:Prop}(h:A):if true=true then A else B:=by rw[if_pos rfl];exact h
section
variable {κ:Type}[DecidableEq κ]
theorem Dl {p:κ×V}{r:List (κ×V)}{k:κ}(e:p.1=k):dr (p::r) k=dr r k:=by unfold dr;rw[List.filter_cons,if_neg (by simp[e])]
theorem ug {p:κ×V}{r:List (κ×V)}{k:κ}(e:¬p.1=k):dr (p::r) k=p::dr r k:=by unfold dr;rw[List.filter_cons,if_pos (by simp[e])]
theorem vO:∀{af:List (κ×V)} {k:κ},¬k∈af.map (·.1)->dr af k=af
 | [],_,_=>rfl
 | p::r,k,h=>by
  have h':¬k∈r.map (·.1):=λm=>by obtain⟨q,hq,e⟩:=List.mem_map.mp m;exact h (List.mem_map.mpr ⟨q,List.mem_cons.mpr (Or.inr hq),e⟩)
  rw[ug λe=>h (List.mem_map.mpr ⟨p,List.mem_cons.mpr (Or.inl rfl),e⟩),vO h']
end
def cH (env:Env):List (Str×NameKind)->List (Str×Addr)->List (Str×Addr)
 | [],cs=>cs
 | (n,k)::r,cs=>cH env r (if (k==NameKind.free)=true then (match env.cells.lookup n with | some c=>(n,c)::cs | none=>cs) else cs)
theorem k8 (env:Env):∀(names:List (Str×NameKind)) (cs:List (Str×Addr)),(∀p∈names,p.2=NameKind.free->∃c,env.cells.lookup p.1=some c) ->
 (forIn names cs λ(x:Str×NameKind) (r:List (Str×Addr))=>if (x.2==NameKind.free)=true then do
   let c <-cellOf env x.1
   pure (ForInStep.yield ((x.1,c)::r)) else pure (ForInStep.yield r):Sem (List (Str×Addr)))=pure (cH env names cs)
 | [],cs,_=>rfl
 | (n,k)::r,cs,h=>by
  rw[List.forIn_cons];cases hk:(k==NameKind.free) with
  | false=>
   have e:cH env ((n,k)::r) cs=cH env r cs:=by simp[cH,hk]
   rw[e];simp only[hk,Bool.false_eq_true,if_false,pure_bind];exact k8 env r cs λp hp=>h p (List.mem_cons_of_mem _ hp)
  | true=>
   obtain⟨c,hc⟩:=h (n,k) List.mem_cons_self (by simpa using hk);have hc:env.cells.lookup n=some c:=hc;have e:cH env ((n,k)::r) cs=cH env r ((n,c)::cs):=by simp[cH,hk,hc]
   have e2:cellOf env n=pure c:=by unfold cellOf;rw[hc]
   rw[e];simp only[hk,if_true,e2,pure_bind];exact k8 env r _ λp hp=>h p (List.mem_cons_of_mem _ hp)
theorem vi {scope:Scope}{env:Env}(h:∀p∈scope.names,p.2=NameKind.free->∃c,env.cells.lookup p.1=some c):closureFor scope env=pure (cH env scope.names []):=by unfold closureFor;have:=k8 env scope.names [] h;simp only[bind_pure];exact this
theorem Ap (env:Env)(n:Str)(k:NameKind)(cs:List (Str×Addr))(x:Str)(c:Addr)(h:(if (k==NameKind.free)=true then (match env.cells.lookup n with | some c=>(n,c)::cs | none=>cs) else cs).lookup x=some c):
 cs.lookup x=some c\/env.cells.lookup x=some c:=by
 split at h
 .cases e:env.cells.lookup n with
  | none=>rw[e] at h;exact .inl h
  | some d=>
   rw[e] at h;dsimp only at h;rw[List.lookup_cons] at h;cases hx:x==n with
   | true=>rw[hx] at h;have xV:x=n:=eq_of_beq hx;rw[xV];exact .inr (e.trans h)
   | false=>rw[hx] at h;exact .inl h
 .exact .inl h
theorem eI (env:Env):∀(names:List (Str×NameKind)) (cs:List (Str×Addr)) (x:Str) (c:Addr),(cH env names cs).lookup x=some c->cs.lookup x=some c\/env.cells.lookup x=some c
 | [],_,_,_,h=>.inl h
 | (n,k)::r,cs,x,c,h=>by
  unfold cH at h;rcases eI env r _ x c h with h' | h'
  .exact Ap env n k cs x c h'
  .exact .inr h'
theorem pG (env:Env):∀(names:List (Str×NameKind)) (cs:List (Str×Addr)) (x:Str),(∃c,cs.lookup x=some c)->∃c,(cH env names cs).lookup x=some c
 | [],_,_,h=>h
 | (n,k)::r,cs,x,h=>by
  unfold cH;refine pG env r _ x ?_;split
  .cases e:env.cells.lookup n with
   | none=>exact h
   | some d=>
    dsimp only;rw[List.lookup_cons];cases hx:x==n with
    | true=>exact⟨d,rfl⟩
    | false=>exact h
  .exact h
theorem mw (env:Env):∀(names:List (Str×NameKind)) (cs:List (Str×Addr)) (x:Str),(x,NameKind.free)∈names->(∃c,env.cells.lookup x=some c)->∃c,(cH env names cs).lookup x=some c
 | [],_,_,h,_=>by simp at h
 | (n,k)::r,cs,x,h,⟨c,hc⟩=>by
  unfold cH;rcases List.mem_cons.mp h with e | h
  .obtain⟨rfl,rfl⟩:=Prod.mk.inj e;refine pG env r _ _ ?_;rw[hc];simp[List.lookup_cons]
  .exact mw env r _ x h ⟨c,hc⟩
def GR (X:Cx)(sc:Scope)(x:Str)(M:List Str)(C:Addr)(s:Sh)(H:Hp)(fp:List Addr):Cx:=
 { X with env:=compEnvC sc (cH X.env sc.names []) C X.env,N:=x::M,s₀:=s,H₀:=H,outer:=X.stack,ex:=fp,fn:=λ_=>false,pn:=[],xe:=λ_ _=>False }
theorem cQ {env:Env}{k:NameKind}:∀{names:List (Str×NameKind)} {x:Str},(∀p∈names,p.2≠NameKind.cell) ->
 (names.map λ(n,k)=>if (k==NameKind.free&&env.scope.kind == .function&&env.kindOf n==some .cell) then (n,NameKind.cell) else (n,k)).lookup x=some k->k=NameKind.cell\/k=NameKind.free->(x,NameKind.free)∈names
 | [],_,_,h,_=>by simp at h
 | (n,k')::r,x,hc,h,hk=>by
  have ih:=@cQ env k r x (λp hp=>hc p (List.mem_cons_of_mem _ hp));have h:List.lookup x ((if (k'==NameKind.free&&env.scope.kind == .function&&env.kindOf n==some .cell)=true then (n,NameKind.cell) else (n,k'))::(r.map λ(n,k)=>if (k==NameKind.free&&env.scope.kind == .function&&env.kindOf n==some .cell) then (n,NameKind.cell) else (n,k)))=some k:=h
  by_cases hd:(k'==NameKind.free&&env.scope.kind == .function&&env.kindOf n==some .cell)=true
  .rw[if_pos hd,List.lookup_cons] at h;cases hx:x==n with
   | true=>
    have e:x=n:=eq_of_beq hx;have e2:k'=NameKind.free:=by simp only[Bool.and_eq_true] at hd;exact eq_of_beq hd.1.1
    rw[e,e2];exact List.mem_cons_self
   | false=>rw[hx] at h;exact List.mem_cons_of_mem _ (ih h hk)
  .rw[if_neg hd,List.lookup_cons] at h;cases hx:x==n with
   | true=>
    rw[hx] at h;have e:x=n:=eq_of_beq hx;have e2:k'=k:=Option.some.inj h;rcases hk with hk | hk
    .exact absurd (e2.trans hk) (hc (n,k') List.mem_cons_self)
    .rw[e,<-hk,<-e2];exact List.mem_cons_self
   | false=>rw[hx] at h;exact List.mem_cons_of_mem _ (ih h hk)
theorem fJ {env:Env}:∀{names:List (Str×NameKind)} {x:Str},
 (names.map λ(n,k)=>if (k==NameKind.free&&env.scope.kind == .function&&env.kindOf n==some .cell) then (n,NameKind.cell) else (n,k)).lookup x=some NameKind.local->names.lookup x=some NameKind.local
 | [],_,h=>by simp at h
 | (n,k')::r,x,h=>by
  have ih:=@fJ env r x;have h:List.lookup x ((if (k'==NameKind.free&&env.scope.kind == .function&&env.kindOf n==some .cell)=true then (n,NameKind.cell) else (n,k'))::(r.map λ(n,k)=>if (k==NameKind.free&&env.scope.kind == .function&&env.kindOf n==some .cell) then (n,NameKind.cell) else (n,k)))=some NameKind.local:=h;rw[List.lookup_cons]
  by_cases hd:(k'==NameKind.free&&env.scope.kind == .function&&env.kindOf n==some .cell)=true
  .rw[if_pos hd,List.lookup_cons] at h;cases hx:x==n with
   | true=>rw[hx] at h;cases h
   | false=>rw[hx] at h;exact ih h
  .rw[if_neg hd,List.lookup_cons] at h;cases hx:x==n with
   | true=>rw[hx] at h;exact h
   | false=>rw[hx] at h;exact ih h
section
variable {X:Cx}{pins:List (Addr×Obj)}{σ:St}{H:Hp}{s:Sh}{sc:Scope}{x:Str}{M:List Str}{C:Addr}{fp:List Addr}
end
section
variable {P:Program}{w:World}{H:Hp}{h:Heap}{a:Addr}{o:HO}
theorem aT.Bm (x:aT P w H h)(hn:H a=none)(new:aX P w (upd H a o) h a o):aT P w (upd H a o) h:=λb u e=>by
 by_cases hb:b=a
 .subst hb;rw[aA] at e;cases e;exact new
 .rw[ax hb] at e;exact(x b u e).ij (λc v _ q=>q) (λc q=>by rw[ax (bF q hn)];exact q) λc xs q=>by rw[ax (bF q hn)];exact q
end
section
variable {X:Cx}{pins:List (Addr×Obj)}{σ:St}{H:Hp}{s:Sh}
theorem Inv.Bm {a:Addr}{o:HO}(I:Inv X pins σ H s)(hf:eM X pins H a)(ha:X.s₀.heap.objs.size<=a)(new:aX X.prog X.w (upd H a o) s.heap a o):Inv X pins σ (upd H a o) s:=by
 obtain⟨hn,hL,hfs,hs,hc,hp⟩:=hf;refine⟨I.ok,I.os,I.bare,⟨I.base.keep,I.base.slot,λb ob e n x=>?_,I.base.there,λb xs e=>?_,λb ob u e=>?_,λb ps e=>?_⟩,I.loc,I.cell,?_,λy c e=>?_,λp q=>?_,I.aq.Bm hn new,I.len⟩
 .rw[ax (Nat.ne_of_lt (Nat.lt_of_lt_of_le (Heap.lt_size e) ha))];exact I.base.free b ob e n x
 .rw[ax (bF (I.base.dM b xs e) hn)];exact I.base.dM b xs e
 .rw[ax (bF (I.base.c6 b ob u e) hn)];exact I.base.c6 b ob u e
 .obtain⟨mr,q⟩:=I.base.jt b ps e;exact⟨mr,by rw[ax (bF q hn)];exact q⟩
 .rw[ax (Ne.symm hL)];exact I.free
 .rw[ax (hc y c e)];exact I.eV y c e
 .obtain⟨e,n,ne,nf,d⟩:=I.pin p q;exact⟨e,by rw[ax (hp p q)];exact n,ne,nf,d⟩
end
def PF (X:Cx)(ifs:List Expr)(t:TT):Prop:=
 ∀(pins:List (Addr×Obj)) (s:Sh) (σ:St) (H:Hp) (Q:Bool->Hp->Prop),Inv X pins σ H s->t σ H Q ->
  wpAny (model X.prog X.w) X.A (forIn ifs true λc r=>if r=true then do let ok <-isTrue c X.env (eval c X.env);pure (ForInStep.yield ok) else pure (ForInStep.yield r)) (TP X pins σ Q) X.xe s
def JX:TT:=λ_ H Q=>Q true H
theorem MB {X:Cx}:PF X [] JX:=λ_ _ _ H _ I h=>wpAny_tests_nil ⟨H,I,h⟩
theorem Ks {X:Cx}{c:Expr}{t:TT}(h:PT X c t):PF X [c] t:=λpins s σ H Q I q=>wpAny_tests_one (h pins s σ H Q I q)
structure Bl (q:Cx->Prop)(P:Program)(w:World)(K:Fg)(tg:Expr)(J:It)(fp:List Addr)(it:Addr)(tn:Nat->Heap->Prop):Prop where
 obj:∀i h,tn i h->∀b∈fp,∃o,h.get? b=some o/\∀v,o.data ≠ .cell v
 keep:∀i h h',tn i h->(∀b∈fp,∀o,h.get? b=some o->h'.get? b=some o)->tn i h'
 item:∀(X:Cx),X.prog=P->X.w=w->X.K=K->q X->∀(i:Nat) (pins:List (Addr×Obj)) (s:Sh) (σ:St) (H:Hp) (E:Value->Sh->Prop),Inv X pins σ H s->(∀b∈fp,eM X pins H b)->tn i s.heap->J.go i H ->
  wpAny (model P w) X.A (pyNext (.ref it)) (λr s1=>∃u,r=some u /\
   wpAny (model P w) X.A (letOwnedTupleGo tg (.ref it) u) (λ_ s2=>∃x H',Inv X pins σ H' s2/\RelV x u/\J.xW i H x H'/\tn (i+1) s2.heap/\∀b∈fp,H' b=none) E s1) E s
 done:∀(X:Cx),X.prog=P->X.w=w->X.K=K->q X->∀(i:Nat) (pins:List (Addr×Obj)) (s:Sh) (σ:St) (H:Hp) (E:Value->Sh->Prop),Inv X pins σ H s->(∀b∈fp,eM X pins H b)->tn i s.heap->J.stop i H ->
  wpAny (model P w) X.A (pyNext (.ref it)) (λr s1=>r=none/\Inv X pins σ H s1) E s
 self:∀(A:Around) (i:Nat) (s:Sh) (Q:Value->Sh->Prop) (E:Value->Sh->Prop),tn i s.heap->Q (.ref it) s->wpAny (model P w) A (pyIter (.ref it)) Q E s
theorem Turn.q {P:Program}{w:World}{K:Fg}{tg:Expr}{J:It}{fp:List Addr}{it:Addr}{tn:Nat->Heap->Prop}(T:Turn P w K tg J fp it tn):Bl (λX=>X.calm=true) P w K tg J fp it tn:=⟨T.obj,T.keep,T.item,T.done,T.self⟩
section
variable {X:Cx}{pins:List (Addr×Obj)}{σ:St}{H:Hp}{s:Sh}{sc:Scope}{x:Str}{M:List Str}{fp:List Addr}{J:It}{it:Addr}{tn:Nat->Heap->Prop}{px pos:Pos}{elt iter:Expr}{ifs:List Expr}{tt:TT}{te:TE}{R:List V->Hp->Prop}
end
section
variable {X:Cx}{sc:Scope}{x:Str}{px pos:Pos}{elt iter:Expr}{ifs:List Expr}{tt:TT}{te:TE}{wi:TI}
def LU (i:Nat)(t:TE):TS:=λD σ H=>t σ H λv H1=>D.nx (σ.set i (some v)) H1
end
end L2
namespace L2
open PySem PySem.Spec PyProof.Rows PySem.SeqAt
def je (K:Fg)(H:Hp)(n:Nat)(x y:V)(b:Bool):Prop:=
 ∀(X:Cx) (pins:List (Addr×Obj)) (σ:St) (s:Sh) (A:Around) (u v:Value),X.K=K->Inv X pins σ H s->RelV x u->RelV y v->A.units+n<cLine->EqAt A s u v b/\RcAt A s u v b/\RcNeAt A s u v (!b)
theorem Fw {K:Fg}{H:Hp}{n:Nat}{x y:V}(fx:fO x=true)(fy:fO y=true):je K H n x y (kJ x y):=by
 intro X pins σ s A u v _ I rx ry _;refine⟨vL rx ry fx fy,?_⟩;cases x with
 | aj=>
  cases rx;cases y with
  | aj=>cases ry;exact⟨RcAt.none_none,RcNeAt.none_none⟩
  | bl b=>cases ry;exact⟨RcAt.none_bool b,RcNeAt.none_bool b⟩
  | int b=>obtain⟨t,rfl⟩:=ry;exact⟨RcAt.none_int b t,RcNeAt.none_int b t⟩
  | str b=>obtain⟨t,rfl⟩:=ry;exact⟨RcAt.none_str b t,RcNeAt.none_str b t⟩
  | _=>cases fy
 | bl a=>
  cases rx;cases y with
  | aj=>cases ry;exact⟨RcAt.bool_none a,RcNeAt.bool_none a⟩
  | bl b=>cases ry;exact⟨RcAt.bool_bool a b,RcNeAt.bool_bool a b⟩
  | int b=>obtain⟨t,rfl⟩:=ry;exact⟨RcAt.bool_int a b t,RcNeAt.bool_int a b t⟩
  | str b=>obtain⟨t,rfl⟩:=ry;exact⟨RcAt.bool_str a b t,RcNeAt.bool_str a b t⟩
  | _=>cases fy
 | int a=>
  obtain⟨ta,rfl⟩:=rx;cases y with
  | aj=>cases ry;exact⟨RcAt.int_none a ta,RcNeAt.int_none a ta⟩
  | bl b=>cases ry;exact⟨RcAt.int_bool a ta b,RcNeAt.int_bool a ta b⟩
  | int b=>obtain⟨t,rfl⟩:=ry;exact⟨RcAt.int_int a ta b t,RcNeAt.int_int a ta b t⟩
  | str b=>obtain⟨t,rfl⟩:=ry;exact⟨RcAt.int_str a ta b t,RcNeAt.int_str a ta b t⟩
  | _=>cases fy
 | str a=>
  obtain⟨ta,rfl⟩:=rx;cases y with
  | aj=>cases ry;exact⟨RcAt.str_none a ta,RcNeAt.str_none a ta⟩
  | bl b=>cases ry;exact⟨RcAt.str_bool a ta b,RcNeAt.str_bool a ta b⟩
  | int b=>obtain⟨t,rfl⟩:=ry;exact⟨RcAt.str_int a ta b t,RcNeAt.str_int a ta b t⟩
  | str b=>obtain⟨t,rfl⟩:=ry;exact⟨RcAt.str_str a ta b t,RcNeAt.str_str a ta b t⟩
  | _=>cases fy
 | _=>cases fx
section
variable {K:Fg}{H:Hp}{n:Nat}{a b:Addr}{xs ys:List V}{e:Nat->Bool}
theorem oI {xs:List V}{ai:List Value}(r:Vals xs ai){j:Nat}(h:j<ai.toArray.size):∃x,xs[j]?=some x/\RelV x ai.toArray[j]:=by
 have hl:j<ai.length:=by simpa using h
 cases q:xs[j]? with
 | none=>have:=List.getElem?_eq_none_iff.mp q;rw[r.length] at this;omega
 | some x=>
  obtain⟨u,hu,ru⟩:=r.get q;refine⟨x,rfl,?_⟩;obtain⟨_,e⟩:=List.getElem?_eq_some_iff.mp hu;have:ai.toArray[j]=u:=by simpa using e
  rw[this];exact ru
theorem in1_units (A:Around):A.in1.units=A.units+1:=rfl
theorem tZ (ha:cm K H a xs)(hb:cm K H b ys)(hl:xs.length=ys.length)(qe:a=b->(List.range xs.length).all e=true)(he:∀j x y,xs[j]?=some x->ys[j]?=some y->je K H n x y (e j)):
 je K H (n+1) (.ref a) (.ref b) ((List.range xs.length).all e):=by
 intro X pins σ s A u v hK I rx ry hu;subst hK;cases rx;cases ry;obtain⟨ai,r1,p1,_⟩:=I.list ha;obtain⟨ff,r2,p2,_⟩:=I.list hb;have hsz:ai.toArray.size=ff.toArray.size:=by simp[<-r1.length,<-r2.length,hl]
 have es:xs.length=ai.toArray.size:=by simp[<-r1.length]
 have items:∀j (h1:j<ai.toArray.size) (h2:j<ff.toArray.size),EqAt A.in1 s ai.toArray[j] ff.toArray[j] (e j):=λj h1 h2=>by obtain⟨x,e1,q1⟩:=oI r1 h1;obtain⟨y,e2,q2⟩:=oI r2 h2;exact(he j x y e1 e2 X pins σ s A.in1 _ _ rfl I q1 q2 (by rw[in1_units];omega)).1
 have rc:RcAt A s (.ref a) (.ref b) ((List.range xs.length).all e):=by rw[es];exact RcAt.lists p1.isList p2.isList hsz (by omega) items
 refine⟨?_,rc,?_⟩
 .by_cases h:a=b
  .rw[qe h,h];exact EqAt.same _
  .exact .of_refs h rc
 .rw[es];exact RcNeAt.lists p1.isList p2.isList hsz (by omega) items
theorem mK (ha:cm K H a xs)(hb:cm K H b ys)(hl:xs.length≠ys.length):je K H n (.ref a) (.ref b) false:=by
 intro X pins σ s A u v hK I rx ry hu;subst hK;cases rx;cases ry;obtain⟨ai,r1,p1,_⟩:=I.list ha;obtain⟨ff,r2,p2,_⟩:=I.list hb;have hsz:(ai.toArray.size != ff.toArray.size)=true:=by simp[<-r1.length,<-r2.length,hl]
 have rc:RcAt A s (.ref a) (.ref b) false:=RcAt.lists_lengths p1.isList p2.isList hsz (by omega);refine⟨.of_refs (λh=>?_) rc,rc,RcNeAt.lists_lengths p1.isList p2.isList hsz (by omega)⟩;subst h;exact hl (by rw[I.qP ha hb])
theorem Am (ha:cy K H a xs)(hb:cy K H b ys)(qe:a=b->((List.range (min xs.length ys.length)).all e&&xs.length==ys.length)=true)(he:∀j x y,xs[j]?=some x->ys[j]?=some y->je K H n x y (e j)):
 je K H (n+1) (.ref a) (.ref b) ((List.range (min xs.length ys.length)).all e&&xs.length==ys.length):=by
 intro X pins σ s A u v hK I rx ry hu;subst hK;cases rx;cases ry;obtain⟨ai,r1,p1,_⟩:=I.tuple ha;obtain⟨ff,r2,p2,_⟩:=I.tuple hb;have es:xs.length=ai.toArray.size:=by simp[<-r1.length]
 have es2:ys.length=ff.toArray.size:=by simp[<-r2.length]
 have items:∀j (h1:j<ai.toArray.size) (h2:j<ff.toArray.size),EqAt A.in1 s ai.toArray[j] ff.toArray[j] (e j):=λj h1 h2=>by obtain⟨x,e1,q1⟩:=oI r1 h1;obtain⟨y,e2,q2⟩:=oI r2 h2;exact(he j x y e1 e2 X pins σ s A.in1 _ _ rfl I q1 q2 (by rw[in1_units];omega)).1
 have p1:s.heap.IsTuple a ai.toArray:=p1;have p2:s.heap.IsTuple b ff.toArray:=p2;have rc:RcAt A s (.ref a) (.ref b) ((List.range (min xs.length ys.length)).all e&&xs.length==ys.length):=by rw[es,es2];exact RcAt.tuples p1 p2 (by omega) items
 refine⟨?_,rc,?_⟩
 .by_cases h:a=b
  .rw[qe h,h];exact EqAt.same _
  .exact .of_refs h rc
 .rw[es,es2];exact RcNeAt.tuples p1 p2 (by omega) items
theorem Lh {m:Nat}{x y:V}{k:Bool}(h:je K H n x y k)(hm:n<=m):je K H m x y k:=λX pins σ s A u v hK I rx ry hu=>h X pins σ s A u v hK I rx ry (by omega)
end
section
variable {X:Cx}{n:Nat}
def LK (K:Fg)(n:Nat):R2:=λx y H Q=>∃b,je K H n x y b/\Q (.bl b) H
def Lw (K:Fg)(n:Nat):R2:=λx y H Q=>∃b,je K H n x y b/\Q (.bl (!b)) H
theorem MY (hu:X.A.units+n<cLine):bS X (compareOp .Eq) (LK X.K n):=by intro pins s σ H x y v u Q I rx ry h;obtain⟨b,c,q⟩:=h;exact(c X pins σ s X.A _ _ rfl I rx ry hu).2.1 _ _ _ _ ⟨.bl b,H,I,rfl,q⟩
theorem Lr (hu:X.A.units+n<cLine):bS X (compareOp .NotEq) (Lw X.K n):=by intro pins s σ H x y v u Q I rx ry h;obtain⟨b,c,q⟩:=h;exact(c X pins σ s X.A _ _ rfl I rx ry hu).2.2 _ _ _ _ ⟨.bl (!b),H,I,rfl,q⟩
end
section
variable {X:Cx}
theorem Il:bS X (binaryOp .Mult) (rI IntMulOk λi j=>.int (i*j)):=GY λ_ _ _ _ _ _ _ hc q=>PyProof.Rows.mul_int q hc
def GX (i j:Int):Prop:=0<j/\j.natAbs.log2<9000
theorem Fq:bS X (binaryOp .FloorDiv) (rI GX λi j=>.int (i / j)):=GY λi j _ _ _ _ _ hc q=>by have h1:(0:Int)<j:=hc.1;exact floordiv_int (by omega) (by rw[Int.fdiv_eq_ediv_of_nonneg i (by omega)];exact q) (.inl (PyProof.noPylong_of_log2 hc.2))
def O0 (K:Fg):List V->Hp->VK->Prop:=λxs H Q=>∃x c t cv b,xs=[x,c]/\RelV c cv/\(∀u,RelV c u->u=cv)/\hJ K H x t/\W.kitOne K t cv=some b/\Q (.bl b) H
theorem E8:dt X (.builtin "isinstance") (O0 X.K):=by intro pins s σ H xs us Q I r h;obtain⟨x,c,t,cv,b,rfl,rc,uc,ty,e,q⟩:=h;obtain⟨u,v,rfl,ru,rv⟩:=vals2 r;cases uc v rv;exact B9 I ru ty e λtk=>⟨.bl b,H,I.tok tk,rfl,q⟩
theorem Ep {prog:Program}{w:World}{A:Around}{E:Value->Sh->Prop}{s:Sh}{t b:Addr}{vs ws:List Value}{Q:Value->Sh->Prop}(ht:IsTup s.heap t vs.toArray)(hb:IsTup s.heap b ws.toArray)(hv:vs=[])
 (h1:Q (.ref b) s):wpAny (model prog w) A (binaryOp .Add (.ref t) (.ref b)) Q E s:=by
 obtain⟨⟨c1,d1,dt1,sl1⟩,ho,hc,n,hd⟩:=id ht;obtain⟨⟨c2,d2,dt2,sl2⟩,fz,uV,n2,hd2⟩:=id hb;simp only at hc hd uV hd2;subst hc hd uV hd2;exact concat_meets ⟨_,ho,rfl⟩ ⟨_,fz,rfl⟩ noFill_tuple_add seq_tuple_add PySem.F.slot_tuple_add PySem.F.entry_tuple_add (PySem.F.args_tuple_add_2 _ _)
  (tuple_addW0 t b vs.toArray ws.toArray n n2 d1 d2 sl1 sl2 (by simp[hv])) ⟨ho,fz,h1⟩
def Hv (K:Fg):R2:=λx y H Q=>∃a b xs ys,x = .ref a/\y = .ref b/\cy K H a xs/\cy K H b ys/\xs.length+ys.length<=sizeLine /\
 (xs=[]->Q (.ref b) H)/\(xs≠[]->ys=[]->Q (.ref a) H)/\(xs≠[]->ys≠[]->∀p,H p=none->Q (.ref p) (upd H p (.tup (xs++ys))))
theorem JH:bS X (binaryOp .Add) (Hv X.K):=by
 intro pins s σ H x y v u Q I rx ry h;obtain⟨a,b,xs,ys,rfl,rfl,ha,hb,hz,h0,h1,h2⟩:=h;cases rx;cases ry;obtain⟨ai,r1,p1,_⟩:=I.tuple ha;obtain⟨ff,r2,p2,_⟩:=I.tuple hb
 by_cases hx:xs=[]
 .exact Ep p1 p2 (r1.gT.mpr hx) ⟨.ref b,H,I,rfl,h0 hx⟩
 .refine HT.JU p1 p2 (λz=>hx (r1.gT.mp z)) (λz=>⟨.ref a,H,I,rfl,h1 hx (r2.gT.mp z)⟩) (λz=>?_) (by rw[<-r1.length,<-r2.length];exact hz);refine⟨.ref s.heap.objs.size,_,I.laid (o:=.tup (xs++ys)) (t':=s.toks) (λc o e=>Heap.get?_push_of_some _ e) (Nat.le_refl _) ?_,rfl,h2 hx (λq=>z (r2.gT.mpr q)) _ I.fresh⟩;exact⟨by rw[List.length_append];exact hz,ai++ff,r1.append r2,⟨_,Heap.get?_push_size _ rfl,rfl,_,rfl⟩⟩
def Pe (K:Fg):List V->Hp->VK->Prop:=λxs H Q=>∃(a:Addr) (bs:List Bool),xs=[.ref a]/\cm K H a (bs.map V.bl)/\Q (.bl (bs.all id)) H
theorem Dn (hc:X.calm=true):dt X (.builtin "all") (Pe X.K):=by
 intro pins s σ H xs us Q I r h;obtain⟨a,bs,rfl,ha,q⟩:=h;obtain⟨u,rfl,ru⟩:=vals1 r;cases ru;obtain⟨ai,r1,p1,hz⟩:=I.list ha;refine call_all_walk ?_;refine wpAny_pyIter_list p1.isList ?_;have eJ:a≠s.heap.objs.size:=λz=>by obtain⟨o,n,e,_⟩:=p1;exact absurd (Heap.lt_size e) (by rw[z];exact Nat.lt_irrefl _)
 refine⟨s.heap.objs.size,_,_,ai.toArray.size,_,_,λi=>bs.getD i true,rfl,Walks.list (A:=X.A.in1) (I.ok.hd hc) _ a eJ ai.toArray,⟨⟨_,Heap.get?_push_size _ rfl,rfl,rfl⟩,?_⟩,λi v s' Q' E' hP hQ=>?_,λh' tk hk=>?_⟩
 .obtain⟨o,n,e,c,_,d⟩:=p1;exact⟨o,Heap.get?_push_of_some _ e,c,n,d⟩
 .have hi:ai[i]?=some v:=by simpa using hP
  have hl:=r1.length;rw[List.length_map] at hl;have eR:i<bs.length:=by have:=(List.getElem?_eq_some_iff.mp hi).1;omega
  obtain⟨w',hw,rw'⟩:=r1.get (i:=i) (x:=V.bl bs[i]) (by rw[List.getElem?_map,List.getElem?_eq_getElem eR];rfl);rw[hi] at hw;cases hw;cases rw';refine wpAny_truthy_bool ?_;have:bs.getD i true=bs[i]:=by simp[eR]
  rw[<-this];exact hQ
 .refine⟨.bl _,H,I.kept (t':=tk) (λb o e=>hk b o (λz=>?_) (Heap.get?_push_of_some _ e)),rfl,?_⟩
  .have:b=s.heap.objs.size:=by simpa using z
   exact absurd (Heap.lt_size e) (by rw[this];exact Nat.lt_irrefl _)
  .have:(List.range ai.toArray.size).all (λi=>bs.getD i true)=bs.all id:=by
    have hl:ai.toArray.size=bs.length:=by have:=r1.length;rw[List.length_map] at this;simpa using this.symm
    rw[hl,Bool.eq_iff_iff,List.all_eq_true,List.all_eq_true];constructor
    .intro h b hb;obtain⟨i,hi,rfl⟩:=List.getElem_of_mem hb;have:=h i (by simpa using hi);simpa[hi] using this
    .intro h i hi;have hi:i<bs.length:=by simpa using hi
     have:=h bs[i] (List.getElem_mem hi);simpa[hi] using this
   rw[this];exact q
def Cp (x:Str):It:=⟨λi _=>i<x.cps.size,λi H y H'=>H'=H/\∃c,x.cps[i]?=some c/\y = .str ⟨#[c]⟩,λi _=>x.cps.size<=i⟩
def Pg (tl:TE):TI:=λσ H R=>tl σ H λx H1=>∃z,x = .str z/\R (Cp z) H1
theorem xB {P:Program}{w:World}{K:Fg}{y:Str}{py:Pos}{z:Str}{t:Tok}{ty:String}(it:Addr)(W:∀A':Around,A'.handled=none->Walks P w A' it [it] [it] z.cps.size (SignAt z) (λi h=>h.IsStrIter it ty z t i))(hs:∀(A:Around) (i:Nat) (s:Sh) (Q:Value->Sh->Prop) (E:Value->Sh->Prop),s.heap.IsStrIter it ty z t i->Q (.ref it) s->wpAny (model P w) A (pyIter (.ref it)) Q E s):
 Turn P w K (.Name y py) (Cp z) [it] it (λi h=>h.IsStrIter it ty z t i/\i<=z.cps.size) where
 mem:=by simp
 obj:=λi h st b hb=>by
  have e:b=it:=by simpa using hb
  subst e;obtain⟨⟨o,e,c,d⟩,_⟩:=st;exact⟨o,e,λv z=>by rw[d] at z;cases z⟩
 keep:=λi h h' st k=>by obtain⟨⟨o,e,r⟩,q⟩:=st;exact⟨⟨o,k it (by simp) o e,r⟩,q⟩
 item:=by intro X hP hw hK hc i pins s σ H E I hf st hg;subst hP hw hK;obtain⟨f0,f1,f2,f3,f4,f5⟩:=hf it (by simp);refine(W X.A (I.ok.hd hc)).item i s _ _ hg st.1 λv h' tk hv jw hk=>?_;obtain⟨c,u,e1,rfl⟩:=hv;have I1:Inv X pins σ H { s with heap:=h',toks:=tk }:=I.turned (t':=tk) (λb o hb e=>hk b o (by simpa using hb) e) f0 f1 f3 f4 f5;refine⟨_,rfl,?_⟩;show wpAny _ _ (pure ()) _ _ _;exact wpAny_pure ⟨.str ⟨#[c]⟩,H,I1,⟨_,rfl⟩,⟨rfl,c,e1,rfl⟩,⟨jw,hg⟩,λb hb=>(hf b hb).1⟩
 done:=by intro X hP hw hK hc i pins s σ H E I hf st hg;subst hP hw hK;obtain⟨f0,f1,f2,f3,f4,f5⟩:=hf it (by simp);have e:i=z.cps.size:=Nat.le_antisymm st.2 hg;subst e;exact(W X.A (I.ok.hd hc)).done s _ _ st.1 λh' tk hk=>⟨rfl,I.turned (t':=tk) (λb o hb e=>hk b o (by simpa using hb) e) f0 f1 f3 f4 f5⟩
 self:=λA i s Q E st h=>hs A i s Q E st.1 h
theorem Le {l:Expr}{tl:TE}{y:Str}{py:Pos}(hl:PE X l tl):PI X (.Name y py) l (Pg tl):=by
 intro pins s σ H R I h;refine aQ (hl pins s σ H _ I h) λv s1 ⟨x,H1,I1,r1,q1⟩=>?_;obtain⟨z,rfl,q⟩:=q1;obtain⟨t,rfl⟩:=r1;have fo:∀b∈[s1.heap.objs.size],eM X pins H1 b:=λb hb=>by
  have e:b=s1.heap.objs.size:=by simpa using hb
  subst e;exact I1.mv (Nat.le_refl _) (I1.aq.fresh (Nat.le_refl _))
 cases ha:z.cps.all (· < 128) with
 | false=>exact wpAny_pyIter_wide ha ⟨s1.heap.objs.size,[s1.heap.objs.size],_,Cp z,H1,rfl,I1.kept (t':=s1.toks) λb o e=>Heap.get?_push_of_some _ e,xB _ (λA' hA=>Walks.strWide hA _ z t) (λ_ _ _ _ _ st h=>wpAny_pyIter_striter_wide st h),⟨⟨_,Heap.get?_push_size _ rfl,rfl,rfl⟩,Nat.zero_le _⟩,fo,q⟩
 | true=>exact wpAny_pyIter_ascii ha ⟨s1.heap.objs.size,[s1.heap.objs.size],_,Cp z,H1,rfl,I1.kept (t':=s1.toks) λb o e=>Heap.get?_push_of_some _ e,xB _ (λA' hA=>Walks.strAscii hA _ z t) (λ_ _ _ _ _ st h=>wpAny_pyIter_striter_ascii st h),⟨⟨_,Heap.get?_push_size _ rfl,rfl,rfl⟩,Nat.zero_le _⟩,fo,q⟩
end
section
variable {prog:Program}{w:World}{A:Around}{E:Value->Sh->Prop}{s:Sh}{it d:Addr}{i n ep:Nat}{od:Obj}{es:Array DictEntry}
theorem xx {Q:Option Value->Sh->Prop}(hit:s.heap.IsKeyIter it d i n ep)(hd:s.heap.get? d=some od)(fg:od.data = .dict es ep)(hn:es.size=n)(hi:i<es.size)
 (hQ:∀h',h'.IsKeyIter it d (i+1) n ep->Heap.SameBut it s.heap h'->Q (some es[i].key) { s with heap:=h' }):wpAny (model prog w) A (pyNext (.ref it)) Q E s:=by
 obtain⟨oi,zZ,hci,x3⟩:=id hit;subst hn;unfold pyNext;refine wpAny_bind (wpAny_attempt (wpAny_callSpecial?_slot (name:=Str.ofString "__next__") hit.typeIs F.slot_dict_keyiterator_next (wpAny_call_entry F.slot_dict_keyiterator_next hit.typeIs F.entry_dict_keyiterator_next ?tree (F.args_dict_keyiterator_next_1 _))));refine wpAny_bind (wpAny_pure (wpAny_bind (wpAny_bind ?_)))
 first | refine wpAny_bind (wpAny_typeNameOfWhole_keyiter hit.typeIs (wpAny_pure ?_)) | refine wpAny_bind (wpAny_typeNameOf_keyiter hit.typeIs (wpAny_pure ?_))
 refine wpAny_bind (wpAny_fieldsOf zZ x3 ?_);simp only[show Builtin.Dict_items.ownsTuple "dict_keyiterator" = false by decide,Bool.false_eq_true,if_false];show wpAny _ _ (if (Value.ref d==Value.none)=true then _ else _) _ _ s;rw[if_neg (show ¬((Value.ref d==Value.none)=true) from Bool.false_ne_true)];refine wpAny_bind (wpAny_pure (wpAny_bind (wpAny_dictEntries hd fg ?_)));rw[if_neg (by simp)];refine wpAny_bind (wpAny_pure (wpAny_bind (wpAny_dictEpoch hd fg ?_)));rw[if_neg (by simp)];refine wpAny_pure ?_;simp only[show ¬((i:Int)<0) from by omega,if_false,Int.toNat_natCast,Array.getElem?_eq_getElem hi];refine wpAny_bind ?_
 first | refine wpAny_bind (wpAny_typeNameOfWhole_keyiter hit.typeIs (wpAny_pure ?_)) | refine wpAny_bind (wpAny_typeNameOf_keyiter hit.typeIs (wpAny_pure ?_))
 refine wpAny_bind (wpAny_isOneOf_keyiter hit.typeIs ?_);show wpAny _ _ (setField (.ref it) 1 (rawInt ((i:Int)+1)) >>= _) _ _ s;refine wpAny_bind (wpAny_setField zZ x3 (by simp) ?_);have hx:(s.heap.update it (Obj.mapFields (·.setIfInBounds 1 (rawInt ((i:Int)+1))))).IsKeyIter it d (i+1) es.size ep:=
  ⟨_,Heap.get?_update_self _ zZ (Obj.isFreed_of_fields (Obj.data_mapFields x3 _)),(Obj.cls_mapFields ..).trans hci,by rw[Obj.data_mapFields x3];simp[rawInt]⟩
 refine wpAny_bind (wpAny_holding (wpAny_bind (wpAny_isOneOf_keyiter (s:={ s with heap:=s.heap.update it (Obj.mapFields (·.setIfInBounds 1 (rawInt ((i:Int)+1)))) }) hx.typeIs ?_)));show wpAny _ _ (pure es[i].key) _ _ _;exact wpAny_pure (wpAny_pure ⟨_,rfl,wpAny_pure (hQ _ hx (Heap.SameBut.update ..))⟩)
theorem next_end {Q:Option Value->Sh->Prop}(hh:A.handled=none)(hit:s.heap.IsKeyIter it d i n ep)(hd:s.heap.get? d=some od)(fg:od.data = .dict es ep)(hn:es.size=n)(hi:es.size<=i)
 (hQ:∀h',Heap.ExtBut it s.heap h'->Q none { s with heap:=h' }):wpAny (model prog w) A (pyNext (.ref it)) Q E s:=by
 obtain⟨oi,zZ,hci,x3⟩:=id hit;subst hn;unfold pyNext;refine wpAny_bind (wpAny_attempt (wpAny_callSpecial?_slot (name:=Str.ofString "__next__") hit.typeIs F.slot_dict_keyiterator_next (wpAny_call_entry F.slot_dict_keyiterator_next hit.typeIs F.entry_dict_keyiterator_next ?tree (F.args_dict_keyiterator_next_1 _))));refine wpAny_bind (wpAny_pure (wpAny_bind (wpAny_bind ?_)))
 first | refine wpAny_bind (wpAny_typeNameOfWhole_keyiter hit.typeIs (wpAny_pure ?_)) | refine wpAny_bind (wpAny_typeNameOf_keyiter hit.typeIs (wpAny_pure ?_))
 refine wpAny_bind (wpAny_fieldsOf zZ x3 ?_);simp only[show Builtin.Dict_items.ownsTuple "dict_keyiterator" = false by decide,Bool.false_eq_true,if_false];show wpAny _ _ (if (Value.ref d==Value.none)=true then _ else _) _ _ s;rw[if_neg (show ¬((Value.ref d==Value.none)=true) from Bool.false_ne_true)];refine wpAny_bind (wpAny_pure (wpAny_bind (wpAny_dictEntries hd fg ?_)));rw[if_neg (by simp)];refine wpAny_bind (wpAny_pure (wpAny_bind (wpAny_dictEpoch hd fg ?_)));rw[if_neg (by simp)];refine wpAny_pure ?_;simp only[show ¬((i:Int)<0) from by omega,if_false,Int.toNat_natCast,Array.getElem?_eq_none hi];refine wpAny_bind ?_
 first | refine wpAny_bind (wpAny_typeNameOfWhole_keyiter hit.typeIs (wpAny_pure ?_)) | refine wpAny_bind (wpAny_typeNameOf_keyiter hit.typeIs (wpAny_pure ?_))
 show wpAny _ _ (setField (.ref it) 0 .none >>= _) _ _ s;refine wpAny_bind (wpAny_setField zZ x3 (by simp) ?_);show wpAny _ _ (newExc (.type "StopIteration") [] >>= _) _ _ _;refine wpAny_bind ?_;simp only[newExc,newTuple];refine wpAny_bind (wpAny_newObj_type ?_ (by size_fits));refine wpAny_bind (m:=firstArgMember _ _) (wpAny_of_eq (a:=Value.none) (by first | rfl | (simp only[firstArgMember];rfl)) ?_);refine wpAny_newObj_type ?_ (by size_fits);simp only[raiseNew];refine wpAny_bind (wpAny_handled ?_);rw[show A.in1.handled=none from hh];refine wpAny_bind (wpAny_pure (wpAny_throw ?thrown));refine wpAny_bind (wpAny_isInstance (T:="StopIteration") (b:=true) ⟨_,Heap.get?_push_size _ rfl,rfl⟩ isSubtype_stop ?_);exact wpAny_pure (hQ _ (((Heap.SameBut.update ..).extBut.push _).push _))
theorem uN {Q:Value->Sh->Prop}(hs:(d==sysModules)=false)(hd:s.heap.get? d=some od)(hx:od.ExactDict)(fg:od.data = .dict es ep)
 (hQ:Q (.ref s.heap.objs.size) { s with heap:=s.heap.push { cls:=.type "dict_keyiterator",data:=.fields #[.ref d,.int 0 0,.int es.size 0,.int ep 0] } }):wpAny (model prog w) A (pyIter (.ref d)) Q E s:=by
 have hT:s.TypeIs (.ref d) "dict":=⟨od,hd,hx.1⟩;refine wpAny_pyIter_slot hT F.slot_dict_iter (wpAny_call_entry F.slot_dict_iter hT F.entry_dict_iter ?_ (F.args_dict_iter_1 _));unfold Builtin.«dict.__iter__» Builtin.Dict.dictSlotNone;refine wpAny_bind (wpAny_bind (wpAny_notOrdered_dict hT ?_));show wpAny _ _ (pure (Value.ref d)) _ _ s;refine wpAny_pure ?_;show wpAny _ _ (Builtin.Dict.showsAll d >>= _) _ _ s;unfold Builtin.Dict.showsAll;rw[if_neg (by rw[hs];exact Bool.false_ne_true)];refine wpAny_bind (wpAny_pure (wpAny_bind (wpAny_dictEntries hd fg (wpAny_bind (wpAny_dictEpoch hd fg ?_)))));refine wpAny_bind (wpAny_newObj_type (wpAny_pure ⟨_,rfl,"dict_keyiterator",_,⟨_,Heap.get?_push_size _ rfl,rfl⟩,F.slot_dict_keyiterator_next.lookup,?_⟩));simpa[rawInt] using hQ
end
section
variable {prog:Program}{w:World}{A:Around}{E:Value->Sh->Prop}{s:Sh}{d:Addr}{ep:Nat}{od:Obj}{es:Array DictEntry}
theorem AB (hh:A.handled=none)(it:Addr)(eJ:d≠it)(fg:od.data = .dict es ep):
 Walks prog w A it [it,d] [it] es.size (λi v=>es[i]?.map (·.key)=some v) (λi h=>h.IsKeyIter it d i es.size ep/\h.get? d=some od) where
 sub:=λb hb=>by simp at hb;simp[hb]
 frame:=λ_ _ _ st hk=>⟨st.1.at λo e=>hk it (by simp) o e,hk d (by simp) _ st.2⟩
 item:=λi s Q E hi st hQ=>by refine xx st.1 st.2 fg rfl hi λh' hit' sb=>?_;exact hQ es[i].key h' s.toks (by simp[hi]) ⟨hit',(sb.2 d eJ).trans st.2⟩ λb o hb e=>(sb.2 b λz=>hb (by simp[z])).trans e
 done:=λs Q E st hQ=>next_end hh st.1 st.2 fg rfl (Nat.le_refl _) λh' he'=>hQ h' s.toks λb o hb e=>he' b o (λz=>hb (by simp[z])) e
 self:=λ_ _ _ _ st hQ=>wpAny_pyIter_keyiter st.1 hQ
theorem EE (lo:(d==sysModules)=false)(hx:od.ExactDict)(fg:od.data = .dict es ep):W.KdlSrc prog w "dict" d d es.size (λi v=>es[i]?.map (·.key)=some v) (λh=>h.get? d=some od) where
 type:=λ_ hm=>⟨od,hm,hx.1⟩
 there:=λ_ hm=>⟨Heap.lt_size hm,Heap.lt_size hm⟩
 keep:=λ_ _ hm hk=>hk d (.inl rfl) _ hm
 notList:=by decide
 notTuple:=by decide
 hint:=λ_ _ _ _ hm hq=>W.kdl_hint_dict ⟨od,hm,hx.1⟩ hq
 iter:=λ_ _ hh hm=>⟨_,_,(λ_ _ hq=>uN lo hm hx fg hq),AB hh _ (Nat.ne_of_lt (Heap.lt_size hm)) fg,⟨⟨_,Heap.get?_push_size _ rfl,rfl,rfl⟩,Heap.get?_push_of_some _ hm⟩⟩
end
section
variable {prog:Program}{w:World}{A:Around}{E:Value->Sh->Prop}{s:Sh}{d:Addr}{ep:Nat}{od:Obj}{es:Array DictEntry}
theorem vo (lo:(d==sysModules)=false)(fg:od.data = .dict es ep):
 MeetsIn prog w (Builtin.«dict.__len__» ⟨[.ref d],[]⟩) (λ_ R s=>s.heap.get? d=some od/\R (.ok (.ret (.int es.size s.toks))) { s with toks:=s.toks+1 }):=
 .of_wp λA R s ⟨ho,h⟩=>by show wpAny _ _ (dictSize d >>= _) _ _ s;unfold dictSize;refine wpAny_bind (wpAny_bind (wpAny_dictEntries ho fg (wpAny_pure ?_)));show wpAny _ _ (Builtin.Dict.pendingCount d >>= _) _ _ s;exact wpAny_bind (wpAny_pendingCount_other lo (wpAny_ret_mkInt (by rw[Nat.add_zero];exact h)))
theorem JI {Q:Value->Sh->Prop}(lo:(d==sysModules)=false)(ho:s.heap.get? d=some od)(hx:od.ExactDict)(fg:od.data = .dict es ep)(iQ:(es.size:Int)<2 ^ 63)
 (h:Q (.int es.size (s.toks+1)) { s with toks:=s.toks+1+1 }):wpAny (model prog w) A (Builtin.«len» ⟨[.ref d],[]⟩) (λfin s'=>∃r,fin = .done (.ret r)/\Q r s') E s:=by
 have hT:s.TypeIs (.ref d) "dict":=⟨od,ho,hx.1⟩;unfold Builtin.«len»;refine wpAny_bind (m:=oneArg "len" _) (wpAny_pure ?_);refine wpAny_bind (m:=callSpecial? (.ref d) (Str.ofString "__len__")) (wpAny_callSpecial?_slot (name:=Str.ofString "__len__") hT PySem.F.slot_dict_len (call_meetsIn PySem.F.slot_dict_len hT PySem.F.entry_dict_len (PySem.F.args_dict_len_1 _) (vo lo fg) ⟨ho,?_⟩));show wpAny _ _ _ _ _ { s with toks:=s.toks+1 };refine wpAny_bind (wpAny_holding (wpAny_pure (wpAny_bind (wpAny_letGo ?_))));show wpAny _ _ (if ((es.size:Nat):Int)<0 then _ else _) _ _ _;rw[if_neg (by omega)];show wpAny _ _ (if ((es.size:Nat):Int) >= 2 ^ 63 then _ else _) _ _ _;rw[if_neg (by omega)];exact wpAny_bind (wpAny_mkInt (wpAny_pure ⟨_,rfl,h⟩))
end
section
variable {X:Cx}{pins:List (Addr×Obj)}{σ:St}{H:Hp}{s:Sh}{a:Addr}{af:List (List Key×V)}{k:List Key}
theorem lQ (I:Inv X pins σ H s)(e:Rd H a (.dT af)):∃(od:Obj) (es:Array DictEntry) (ep:Nat),s.heap.get? a=some od/\od.ExactDict/\od.data = .dict es ep/\(a==sysModules)=false/\es.size=af.length/\af.length<=sizeLine /\
 ∀(i:Nat) (p:List Key×V),af[i]?=some p->∃b,es[i]?.map (·.key)=some (.ref b)/\H b=some (.tup (p.1.map kV)):=by
 obtain⟨z,hd,xs,rel,o,es,ep,h1,h2,h3,h4,h5⟩:=(show aX X.prog X.w H s.heap a (.dT af) from e.ok I.aq);have hl:af.length=xs.length:=Paired.length rel;refine⟨o,es,ep,h1,h2,h3,hd,by rw[size_of_entries h4,hl],z,λi p hp=>?_⟩;have all:∀{l:List (List Key×V)} {m:List (List Key×Addr×Value)},KT H l m->∀(i:Nat) p,l[i]?=some p->∃q,m[i]?=some q/\H q.2.1=some (.tup (p.1.map kV)):=by
  intro l m q
  induction q with
  | nil=>intro i p h;simp at h
  | @cons p' q' ps qs hq t ih=>
   intro i p h;cases i with
   | zero=>
    have:p'=p:=by simpa using h
    subst this;exact⟨q',by simp,hq.2.1⟩
   | succ i=>obtain⟨q2,e1,e2⟩:=ih i p (by simpa using h);exact⟨q2,by simpa using e1,e2⟩
 obtain⟨q,e1,e2⟩:=all rel i p hp;refine⟨q.2.1,?_,e2⟩;rw[entry_at h4 i,e1];rfl
theorem Ad (hc:X.calm=true):dt X (.type "list") (λxs H Q=>∃a af,xs=[V.ref a]/\Rd H a (.dT af)/\∀l ys,H l=none->ys.length=af.length->(∀(i:Nat) p,af[i]?=some p->∃b,ys[i]?=some (V.ref b)/\H b=some (.tup (p.1.map kV)))->Q (.ref l) (upd H l (.lst ys))):=by
 intro pins s σ H xs us Q I r h;obtain⟨a,af,rfl,ha,q⟩:=h;obtain⟨u,rfl,ru⟩:=vals1 r;cases ru;obtain⟨od,es,ep,h1,h2,h3,h4,h5,h6,h7⟩:=lQ I ha;refine W.kdl_call (EE h4 h2 h3) (I.ok.hd hc) h1 (by rw[h5];exact h6) λh' tk mE c' hk hD tN=>?_;have addr:∀i:Nat,i<af.length->∃b,mE[i]?=some (.ref b)/\∀p,af[i]?=some p->H b=some (.tup (p.1.map kV)):=λi hi=>by
  obtain⟨b,e1,e2⟩:=h7 i af[i] (by simp[hi]);have mZ:i<mE.size:=by rw[tN.1,h5];exact hi
  have:es[i]?.map (·.key)=some mE[i]:=tN.2 i mE[i] (by simp[mZ]);rw[e1] at this;refine⟨b,by rw[Array.getElem?_eq_getElem mZ,<-Option.some.inj this],λp hp=>?_⟩;rw[List.getElem?_eq_getElem hi] at hp;rw[<-Option.some.inj hp];exact e2
 have vals:Vals (mE.toList.map λv=>match v with | .ref b=>V.ref b | _=>V.aj) mE.toList:=by
  have:∀l:List Value,(∀v∈l,∃b,v=Value.ref b)->Vals (l.map λv=>match v with | .ref b=>V.ref b | _=>V.aj) l:=by
   intro l
   induction l with
   | nil=>intro _;exact .nil
   | cons v r ih=>intro hv;obtain⟨b,rfl⟩:=hv v List.mem_cons_self;exact .cons rfl (ih λw hw=>hv w (List.mem_cons_of_mem _ hw))
  refine this _ λv hv=>?_;obtain⟨i,hi,rfl⟩:=List.getElem_of_mem hv;have mZ:i<af.length:=by
   have:i<mE.size:=by simpa using hi
   rw[tN.1,h5] at this;exact this
  obtain⟨b,e1,_⟩:=addr i mZ;refine⟨b,?_⟩;rw[<-Array.getElem?_toList,List.getElem?_eq_getElem hi] at e1;exact Option.some.inj e1
 have hlen:(mE.toList.map λv=>match v with | .ref b=>V.ref b | _=>V.aj).length=af.length:=by rw[List.length_map,Array.length_toList,tN.1,h5]
 refine⟨.ref s.heap.objs.size,_,I.laid (t':=tk) hk (Nat.le_refl _) (show aX X.prog X.w _ h' _ (.lst _) from ⟨by rw[hlen];exact h6,mE.toList,c',vals,by simpa using hD⟩),rfl,q _ _ I.fresh hlen λi p hp=>?_⟩;have hi:i<af.length:=(List.getElem?_eq_some_iff.mp hp).1;obtain⟨b,e1,e2⟩:=addr i hi;refine⟨b,?_,e2 p hp⟩;rw[List.getElem?_map,Array.getElem?_toList,e1];rfl
theorem Dp:dt X (.builtin "len") (λxs H Q=>∃a af,xs=[V.ref a]/\Rd H a (.dT af)/\Q (.int (af.length:Nat)) H):=by intro pins s σ H xs us Q I r h;obtain⟨a,af,rfl,ha,q⟩:=h;obtain⟨u,rfl,ru⟩:=vals1 r;cases ru;obtain⟨od,es,ep,h1,h2,h3,h4,h5,h6,h7⟩:=lQ I ha;refine Calls.call_function_entry PySem.kind_len PySem.plain_len PySem.entry_len (PySem.args_len1 _) (JI h4 h1 h2 h3 (by rw[h5];rw[sizeLine_eq] at h6;omega) ?_);exact⟨.int (af.length:Nat),H,I.tok _,⟨_,by rw[h5]⟩,q⟩
theorem uR {α β:Type}(f:α->β):∀(l:List α) (i:Nat),(l.map f).eraseIdx i=(l.eraseIdx i).map f
 | [],_=>rfl
 | _::_,0=>rfl
 | x::r,i+1=>by show f x::(r.map f).eraseIdx i=f x::(r.eraseIdx i).map f;rw[uR f r i]
theorem Gj {prog:Program}{w:World}{κ:Type}[DecidableEq κ]{knd:HeapKind prog w κ}{A:Around}{E:Value->Sh->Prop}{s:Sh}{d b:Addr}{xs:List (κ×Addr×Value)}{j:Nat}{key:κ}{p:Addr×Value}{Q:Option DictEntry->Sh->Prop}(hu:knd.room A)(By:knd.is s.heap key b)
 (hm:s.heap.DictOfH knd d xs) (hj:xs[j]?=some (key,p)) (hz:xs.length<=sizeLine)
 (hQ:∀h',h'.DictOfH knd d (xs.eraseIdx j)->Heap.SameBut d s.heap h'->Q (some (entryOfKey knd (key,p))) { s with heap:=h',toks:=s.toks+knd.draws key }):wpAny (model prog w) A (Builtin.Dict.takeOut d (.ref b)) Q E s:=by
 obtain⟨o,es,ep,ho,hc,hd,he,his,hn⟩:=hm;unfold Builtin.Dict.takeOut
 try with_reducible refine wpAny_holding ?_
 refine wpAny_bind (knd.pyHash hu By (wpAny_bind (wpAny_dictFind_heap (s:={ s with toks:=s.toks+knd.draws key }) hu By ho hd he his hn (λno=>absurd hj (no j p)) λi q hi=>?_)));have e:i=j:=idxH_unique hn hi hj;subst e;refine wpAny_bind (wpAny_dictEntries (s:={ s with toks:=s.toks+knd.draws key }) ho hd ?_);rw[entry_at he i,hj];refine wpAny_bind (wpAny_updateDictKeys (hz:=by have:=size_of_entries he;omega) (s:={ s with toks:=s.toks+knd.draws key }) ho hd (wpAny_pure (hQ _ ⟨_,_,ep+1,Heap.get?_update_self _ ho (Obj.isFreed_of_dict (Obj.data_mapDictKeys hd _)),hc.mapDictKeys _,Obj.data_mapDictKeys hd _,?_,λx hx=>?_,?_⟩ (Heap.SameBut.update ..))))
 .have mZ:i<es.size:=by rw[size_of_entries he];exact(List.getElem?_eq_some_iff.mp hj).1
  rw[Array.eraseIdxIfInBounds,dif_pos mZ];simp[he,uR]
 .exact knd.keeps (his x (List.mem_of_mem_eraseIdx hx)) ho hd (Heap.SameBut.update ..)
 .exact hn.sublist ((List.eraseIdx_sublist _ _).map _)
end
section
variable {κ:Type}[DecidableEq κ]
theorem pP:∀{af:List (κ×V)} {j:Nat} {k:κ} {v:V},(af.map (·.1)).Nodup->af[j]?=some (k,v)->dr af k=af.eraseIdx j
 | [],_,_,_,_,h=>by simp at h
 | p::r,0,k,v,nd,h=>by
  have e:p=(k,v):=by simpa using h
  subst e;have nd:(k::r.map (·.1)).Nodup:=nd;rw[Dl rfl,vO (List.nodup_cons.mp nd).1];rfl
 | p::r,j+1,k,v,nd,h=>by
  have nd:(p.1::r.map (·.1)).Nodup:=nd;have h:r[j]?=some (k,v):=by simpa using h
  have ne:¬p.1=k:=λe=>(List.nodup_cons.mp nd).1 (e ▸ List.mem_map.mpr ⟨(k,v),List.mem_of_getElem? h,rfl⟩);rw[ug ne,pP (List.nodup_cons.mp nd).2 h];rfl
theorem y4 {af:List (κ×V)}{k:κ}{v:V}(h:cV af k=some v):∃j:Nat,af[j]?=some (k,v):=by unfold cV at h;obtain⟨p,hp,e⟩:=Option.map_eq_some_iff.mp h;have h1:=List.find?_some hp;have h2:=List.mem_of_find?_eq_some hp;obtain⟨j,hj,e2⟩:=List.getElem_of_mem h2;refine⟨j,?_⟩;rw[List.getElem?_eq_getElem hj,e2];have:p.1=k:=of_decide_eq_true h1;rw[<-this,<-e]
end
theorem nI {α β:Type}{F:α->β->Prop}:∀{l:List α} {m:List β} (i:Nat),Paired F l m->Paired F (l.eraseIdx i) (m.eraseIdx i)
 | _,_,_,.nil=>.nil
 | _,_,0,.cons _ t=>t
 | _,_,i+1,.cons h t=>.cons h (nI i t)
theorem uA {α β:Type}{F:α->β->Prop}:∀{l:List α} {m:List β} {i:Nat} {x:α},Paired F l m->l[i]?=some x->∃y,m[i]?=some y/\F x y
 | _,_,_,_,.nil,h=>by simp at h
 | _,b::_,0,x,.cons (a:=a) h _,e=>⟨b,by simp,by
  have e:a=x:=by simpa using e
  rw[<-e];exact h⟩
 | _,_,i+1,x,.cons _ t,e=>by obtain⟨y,e1,e2⟩:=uA (i:=i) (x:=x) t (by simpa using e);exact⟨y,by simpa using e1,e2⟩
section
variable {X:Cx}{pins:List (Addr×Obj)}{σ:St}{H:Hp}{s:Sh}{a b:Addr}{af:List (List Key×V)}{k:List Key}{A:Around}{E:Value->Sh->Prop}
theorem zH {xs:List (List Key×Addr×Value)}:∀{af:List (List Key×V)} {xs:List (List Key×Addr×Value)},KT H af xs->af.map (·.1)=xs.map (·.1)
 | _,_,.nil=>rfl
 | _,_,.cons h t=>by rw[List.map_cons,List.map_cons,h.1,zH (xs:=[]) t]
theorem zt {v:V}{Q:Option DictEntry->Sh->Prop}(hu:A.units<cLine)(I:Inv X pins σ H s)(e:H a=some (.dT af))(eb:H b=some (.tup (k.map kV)))(l:cV af k=some v)
 (h:∀en s',Inv X pins σ (upd H a (.dT (dr af k))) s'->RelV v en.val->Q (some en) s') (hr:(tupleKind (aV X.prog X.w)).room A):wpAny (model X.prog X.w) A (Builtin.Dict.takeOut a (.ref b)) Q E s:=by
 obtain⟨z,hd,xs,rel,dd⟩:=rn I.aq e;obtain⟨j,hj⟩:=y4 l;obtain⟨q,hq,q1,q2,q3⟩:=uA rel hj;have nd:(af.map (·.1)).Nodup:=by obtain⟨_,_,_,_,_,_,_,_,n⟩:=dd;rw[zH (xs:=xs) rel];exact n
 obtain⟨qk,qa,qv⟩:=q;cases q1;refine Gj (j:=j) hr (iZ I.aq eb) dd hq (by rw[<-Paired.length rel];exact z) λh' mW hs=>?_;obtain⟨o,es,ep,ho,h2,h3,h4,_,h5⟩:=mW;refine h _ _ (lL (t':=s.toks+(tupleKind (aV X.prog X.w)).draws k) I (by rw[e];exact True.intro) hs ⟨o,ho⟩ ⟨?_,hd,xs.eraseIdx j,?_,o,es,ep,ho,h2,h3,h4,h5⟩) q3
 .exact Nat.le_trans (xf af k) z
 .rw[pP nd hj];refine KT.keeps (nI j rel) λc ys ec=>?_;rw[ax (ib ec e (λz=>nomatch z))];exact ec
theorem Kq {v:V}{Q:Unit->Sh->Prop}(hu:A.units+2<cLine)(I:Inv X pins σ H s)(e:H a=some (.dT af))(eb:H b=some (.tup (k.map kV)))(l:cV af k=some v)(h:∀s',Inv X pins σ (upd H a (.dT (dr af k))) s'->Q () s'):
 wpAny (model X.prog X.w) A (delItem (.ref a) (.ref b)) Q E s:=by
 obtain⟨z,hd,xs,rel,dd⟩:=rn I.aq e;refine wpAny_delItem_slot dd.typeIs (by decide) PySem.F.slot_dict_delitem (wpAny_call_entry PySem.F.slot_dict_delitem dd.typeIs PySem.F.entry_dict_delitem ?_ (PySem.F.args_dict_delitem_2 _ _));unfold Builtin.«dict.__delitem__»;refine wpAny_bind ?_;unfold Builtin.Dict.dictSlotArgs;refine wpAny_bind (wpAny_notOrdered_dict dd.typeIs ?_);show wpAny _ _ (pure (Value.ref a,Value.ref b)) _ _ s;refine wpAny_pure ?_;show wpAny _ _ (Builtin.Dict.takeOut a (.ref b) >>= _) _ _ s;refine wpAny_bind (zt (by rw[in1_units];omega) I e eb l (λen s' I' r=>?_) (tupleKind_room_in1 (by omega)));exact wpAny_bind (wpAny_letGo (wpAny_pure ⟨.none,rfl,h s' I'⟩))
theorem MG {v:V}{Q:Value->Sh->Prop}(hu:A.units+2<cLine)(I:Inv X pins σ H s)(e:H a=some (.dT af))(eb:H b=some (.tup (k.map kV)))(l:cV af k=some v)
 (h:∀w' s',Inv X pins σ (upd H a (.dT (dr af k))) s'->RelV v w'->Q w' s'):wpAny (model X.prog X.w) A (call (.builtin "dict.pop") [.ref a,.ref b]) Q E s:=by
 obtain⟨z,hd,xs,rel,dd⟩:=rn I.aq e;refine wpAny_call_entry PySem.F.slot_dict_pop dd.typeIs PySem.F.entry_dict_pop ?_ (PySem.F.args_dict_pop_2 _ _);unfold Builtin.«dict.pop»;refine wpAny_bind ?_;unfold Builtin.Dict.keyAndDefault;refine wpAny_bind (wpAny_notOrdered_dict dd.typeIs ?_);show wpAny _ _ (pure (a,Value.ref b,none)) _ _ s;refine wpAny_pure ?_;obtain⟨od,es,ep,h1,h2,h3,h4,h5,h6,h7⟩:=lQ I (.inl e);have ne:es.isEmpty=false:=by obtain⟨j,hj⟩:=y4 l;have:=(List.getElem?_eq_some_iff.mp hj).1;rw[Array.isEmpty_eq_false_iff];intro z;rw[z] at h5;simp at h5;omega
 simp only[show (keyPart (Value.ref b)).isSome=false from rfl,Bool.false_eq_true,if_false];refine wpAny_bind (wpAny_dictEntries h1 h3 (wpAny_bind (wpAny_pure ?_)));simp only[ne,Bool.false_eq_true,if_false];refine wpAny_bind (zt (by rw[in1_units];omega) I e eb l (λen s' I' r=>?_) (tupleKind_room_in1 (by omega)));simp only[Option.isNone_some,Bool.false_eq_true,if_false];exact wpAny_bind (wpAny_letGo (wpAny_pure ⟨en.val,rfl,h _ s' I' r⟩))
end
def LF (td ty:TE):TE:=λσ H Q=>td σ H λx H1=>∃a,x = .ref a/\MJ H1 a/\ty σ H1 λy H2=>∃b af k v,y = .ref b/\H2 a=some (.dT af)/\H2 b=some (.tup (k.map kV))/\cV af k=some v/\Q v (upd H2 a (.dT (dr af k)))
section
variable {X:Cx}{o i e:Expr}{td ty:TE}{pos Bz apos dN:Pos}
theorem Fu (hu:X.A.units+2<cLine)(ho:PE X o td)(he:PE X e ty)(m:M1 X o "pop" apos e dN):PE X (.Call (.Attribute o "pop" apos) [e] [] dN) (LF td ty):=by intro pins s σ H Q I h;refine wpAny_Call_method m.base m.few m.line PySem.F.plainAttrs_dict PySem.F.slot_dict_pop PySem.F.type_dict_pop (aQ (ho pins s σ H _ I h) λu s1 ⟨x,H1,I1,rx,a,ex,d,q1⟩=>?_);subst ex;obtain rfl:u=Value.ref a:=rx;obtain⟨t1,t2,_⟩:=Ds I1 d;refine⟨t1,t2,?_⟩;rw[m.trees];refine Calls.callWith_builtin rfl (Calls.evalArgs_plain (Calls.spliced_cons (aQ (he pins s1 σ H1 _ I1 q1) λiv s2 ⟨y,H2,I2,ry,b,af,k,v,ey,ea,eb,l,q2⟩=>Calls.spliced_nil ?_)));subst ey;obtain rfl:iv=Value.ref b:=ry;exact MG hu I2 ea eb l λw' s3 I3 rw'=>⟨v,_,I3,rw',q2⟩
end
section
variable {X:Cx}{pins:List (Addr×Obj)}{σ:St}{H:Hp}{s:Sh}{d:Addr}{od:Obj}{af:List (List Key×V)}
theorem Inv.freeze (I:Inv X pins σ H s)(e:H d=some (.dT af))(he:s.heap.get? d=some od):Inv X pins σ (upd H d (.bR od (.dT af))) s:=by
 have nn:∀b,H b=none->b≠d:=λb n z=>by rw[z,e] at n;cases n
 have ij:∀{b:Addr} {o:HO},aX X.prog X.w H s.heap b o->aX X.prog X.w (upd H d (.bR od (.dT af))) s.heap b o:=λ{b o} x=>
  x.ij (λ_ _ _ q=>q) (λc q=>by rw[ax (ib q e (λz=>nomatch z))];exact q) λc xs q=>by rw[ax (ib q e (λz=>nomatch z))];exact q
 refine⟨I.ok,I.os,I.bare,⟨I.base.keep,I.base.slot,λb ob q n x=>?_,I.base.there,λb xs q=>?_,λb ob u q=>?_,λb ps q=>?_⟩,I.loc,I.cell,?_,λy c q=>?_,λp q=>?_,λb u q=>?_,I.len⟩
 .rw[ax (nn b (I.base.free b ob q n x))];exact I.base.free b ob q n x
 .rw[ax (ib (I.base.dM b xs q) e (λz=>nomatch z))];exact I.base.dM b xs q
 .rw[ax (ib (I.base.c6 b ob u q) e (λz=>nomatch z))];exact I.base.c6 b ob u q
 .obtain⟨mr,q'⟩:=I.base.jt b ps q;exact⟨mr,by rw[ax (ib q' e (λz=>nomatch z))];exact q'⟩
 .rw[ax (nn _ I.free)];exact I.free
 .rw[ax (nn _ (I.eV y c q))];exact I.eV y c q
 .obtain⟨h1,h2,h3,h4,h5⟩:=I.pin p q;exact⟨h1,by rw[ax (nn _ h2)];exact h2,h3,h4,h5⟩
 .by_cases hb:b=d
  .subst hb;rw[aA] at q;cases q;exact⟨he,ij (I.aq _ _ e)⟩
  .rw[ax hb] at q;exact ij (I.aq b u q)
theorem Inv.vH (I:Inv X pins σ H s)(e:H d=some (.bR od (.dT af)))(n0:∀o u,X.H₀ d≠some (.bR o u)):Inv X pins σ (upd H d (.dT af)) s:=by
 have nn:∀b,H b=none->b≠d:=λb n z=>by rw[z,e] at n;cases n
 have ij:∀{b:Addr} {o:HO},aX X.prog X.w H s.heap b o->aX X.prog X.w (upd H d (.dT af)) s.heap b o:=λ{b o} x=>
  x.ij (λ_ _ _ q=>q) (λc q=>by rw[ax (ib q e (λz=>nomatch z))];exact q) λc xs q=>by rw[ax (ib q e (λz=>nomatch z))];exact q
 refine⟨I.ok,I.os,I.bare,⟨I.base.keep,I.base.slot,λb ob q n x=>?_,I.base.there,λb xs q=>?_,λb ob u q=>?_,λb ps q=>?_⟩,I.loc,I.cell,?_,λy c q=>?_,λp q=>?_,λb u q=>?_,I.len⟩
 .rw[ax (nn b (I.base.free b ob q n x))];exact I.base.free b ob q n x
 .rw[ax (ib (I.base.dM b xs q) e (λz=>nomatch z))];exact I.base.dM b xs q
 .have hb:b≠d:=λz=>by rw[z] at q;exact n0 _ _ q
  rw[ax hb];exact I.base.c6 b ob u q
 .obtain⟨mr,q'⟩:=I.base.jt b ps q;exact⟨mr,by rw[ax (ib q' e (λz=>nomatch z))];exact q'⟩
 .rw[ax (nn _ I.free)];exact I.free
 .rw[ax (nn _ (I.eV y c q))];exact I.eV y c q
 .obtain⟨h1,h2,h3,h4,h5⟩:=I.pin p q;exact⟨h1,by rw[ax (nn _ h2)];exact h2,h3,h4,h5⟩
 .by_cases hb:b=d
  .subst hb;rw[aA] at q;cases q;exact ij (I.aq _ _ e).2
  .rw[ax hb] at q;exact ij (I.aq b u q)
end
def Ov (H0:Hp)(te:TE):TE:=λσ H Q=>te σ H λv H'=>∃d o af,H' d=some (.bR o (.dT af))/\(∀o u,H0 d≠some (.bR o u))/\Q v (upd H' d (.dT af))
theorem Jl {X:Cx}{e:Expr}{te:TE}(h:PE X e te):PE X e (Ov X.H₀ te):=λpins s σ H Q I q=>
 aQ (h pins s σ H _ I q) λu s1 ⟨v,H1,I1,r,d,o,af,e1,n0,q1⟩=>⟨v,_,I1.vH e1 n0,r,q1⟩
def NM (H0:Hp)(t:TS):TS:=λD σ H=>t { D with nx:=λσ' H'=>∃d o af,H' d=some (.bR o (.dT af))/\(∀o u,H0 d≠some (.bR o u))/\D.nx σ' (upd H' d (.dT af)) } σ H
theorem zq {X:Cx}{st:Stmt}{t:TS}(h:PS X st t):PS X st (NM X.H₀ t):=λpins s σ H D I q=>
 aQ (h pins s σ H _ I q) λf s1 z=>by
  cases f with
  | next=>obtain⟨σ',H',I',d,o,af,e1,n0,q1⟩:=z;exact⟨σ',_,I'.vH e1 n0,q1⟩
  | brk=>exact z
  | cont=>exact z
  | ret u=>exact z
def Kb (d:Addr)(od:Obj)(af:List (List Key×V)):It:=
 ⟨λi H=>H d=some (.bR od (.dT af))/\i<af.length,λi H x H'=>H'=H/\∃b p,af[i]?=some p/\x = .ref b/\H b=some (.tup (p.1.map kV)),λi H=>H d=some (.bR od (.dT af))/\af.length<=i⟩
theorem Cy {P:Program}{w:World}{K:Fg}{tg:Expr}{d:Addr}{od:Obj}{es:Array DictEntry}{ep:Nat}{af:List (List Key×V)}(it:Addr)(fg:od.data = .dict es ep):
 Turn P w K tg (Kb d od af) [it] it (λi h=>h.IsKeyIter it d i es.size ep) where
 mem:=by simp
 obj:=λi h st b hb=>by
  have e:b=it:=by simpa using hb
  subst e;obtain⟨o,e,c,q⟩:=st;exact⟨o,e,λv z=>by rw[q] at z;cases z⟩
 keep:=λi h h' st k=>st.at λo e=>k it (by simp) o e
 item:=by
  intro X hP hw hK hc i pins s σ H E I hf st hg;subst hP hw hK;obtain⟨hd,hi⟩:=hg;obtain⟨f0,f1,f2,f3,f4,f5⟩:=hf it (by simp);obtain⟨od',DN,DP,h1,h2,h3,h4,h5,h6,h7⟩:=lQ I (.inr ⟨od,hd⟩);have h0:s.heap.get? d=some od:=(I.aq d _ hd).1;rw[h0] at h1;cases h1;rw[fg] at h3;cases h3;obtain⟨b,e1,e2⟩:=h7 i af[i] (by simp[hi]);have mZ:i<es.size:=by rw[h5];exact hi
  refine xx st h0 fg rfl mZ λh' jw sb=>?_;have I1:Inv X pins σ H { s with heap:=h' }:=I.turned (t':=s.toks) (λb o hb e=>(sb.2 b hb).trans e) f0 f1 f3 f4 f5;obtain⟨o,e,c,q⟩:=id jw;have ek:es[i].key = .ref b:=by rw[Array.getElem?_eq_getElem mZ] at e1;exact Option.some.inj e1
  refine⟨_,rfl,?_⟩;rw[ek];exact rq (s:={ s with heap:=h' }) e c q (by decide) ⟨.ref b,H,I1,rfl,⟨rfl,b,af[i],by simp[hi],rfl,e2⟩,jw,λb hb=>(hf b hb).1⟩
 done:=by intro X hP hw hK hc i pins s σ H E I hf st hg;subst hP hw hK;obtain⟨hd,hi⟩:=hg;obtain⟨f0,f1,f2,f3,f4,f5⟩:=hf it (by simp);obtain⟨od',DN,DP,h1,h2,h3,h4,h5,h6,h7⟩:=lQ I (.inr ⟨od,hd⟩);have h0:s.heap.get? d=some od:=(I.aq d _ hd).1;rw[h0] at h1;cases h1;rw[fg] at h3;cases h3;exact next_end (I.ok.hd hc) st h0 fg rfl (by rw[h5];exact hi) λh' eb=>⟨rfl,I.turned (t':=s.toks) (λb o hb e=>eb b o hb e) f0 f1 f3 f4 f5⟩
 self:=λ_ _ _ _ _ st h=>wpAny_pyIter_keyiter st h
section
variable {X:Cx}{pos:Pos}
def Ot (i j k:Nat)(ta:TA):TS:=λD σ H=>ta σ H λvs H1=>∃v w z,vs=[v,w,z]/\D.nx (((σ.set k (some z)).set j (some w)).set i (some v)) H1
theorem Io {i j k:Nat}{x y z:Str}{a b c:Expr}{ta:TA}{px py pz pt:Pos}{kt k2 xU}(hc:X.calm=true)(hN:X.N.Nodup)(hi:X.N[i]?=some x)(hj:X.N[j]?=some y)(hk:X.N[k]?=some z)
 (hx:X.env.scope.names.lookup x=some .local) (hy:X.env.scope.names.lookup y=some .local) (hz:X.env.scope.names.lookup z=some .local) (ha:PA X [a,b,c] ta)
 (hw:swappedStores [.Tuple [.Name x px,.Name y py,.Name z pz] kt pt] (.Tuple [a,b,c] k2 xU) X.env=pure (some [x,y,z]))
 (hs:swapsWithSole [.Tuple [.Name x px,.Name y py,.Name z pz] kt pt] (.Tuple [a,b,c] k2 xU) pos.line X.env=pure false:=by rfl):
 PS X (.Assign [.Tuple [.Name x px,.Name y py,.Name z pz] kt pt] (.Tuple [a,b,c] k2 xU) pos) (Ot i j k ta):=by
 intro pins s σ H D I h;rw[exec_Assign_arm];refine wpAny_bind (wpAny_standAt ?_);rw[hs];refine wpAny_bind (wpAny_pure ?_);rw[if_neg (by decide)];refine wpAny_bind (Tuple_ (aQ (ha _ pins s σ H _ I h) λus s1 ⟨vs,H1,I1,r1,q1⟩=>?_));obtain⟨v,w,z',e1,q1⟩:=q1;subst e1;obtain⟨u1,u2,u3,rfl,rv,rw',rz⟩:∃u1 u2 u3,us=[u1,u2,u3]/\RelV v u1/\RelV w u2/\RelV z' u3:=by
  cases r1 with
  | cons p q=>
   cases q with
   | cons p' q'=>
    cases q' with
    | cons p2 q2=>cases q2;exact⟨_,_,_,rfl,p,p',p2⟩
 refine wpAny_newObj_type ?_ (by show 3<=sizeLine;decide);have I2:Inv X pins σ H1 { s1 with heap:=s1.heap.push { cls:=.type "tuple",data:=.seq [u1,u2,u3].toArray } }:=I1.kept (t':=s1.toks) λb o e=>Heap.get?_push_of_some _ e;rw[hw];refine wpAny_bind (wpAny_pure ?_);show wpAny (model X.prog X.w) X.A (do rule "assign.swapped-stores";let items <-unpackItems (.ref s1.heap.objs.size) 3 none;assignInOrder [λv=>bindName X.env z v,λv=>bindName X.env y v,λv=>bindName X.env x v] items.reverse;pure Flow.next) _ _ _;refine wpAny_bind (wpAny_rule (wpAny_bind (unpackItems_tuple (items:=#[u1,u2,u3]) (I.ok.hd hc) (IsTup.new s1.heap _) λh' xV=>?_)));have I3:=I2.kept (h':=h') (t':=s1.toks) λb o e=>xV b o (Nat.ne_of_lt (Heap.lt_size e)) e;show wpAny _ _ (assignInOrder [λv=>bindName X.env z v,λv=>bindName X.env y v,λv=>bindName X.env x v] [u3,u2,u1] >>= λ_=>pure Flow.next) _ _ _;refine wpAny_bind (assignInOrder_cons (wpAny_bindName (gQ I3 hN hk (.inl hz) rz (λs2 I4=>?_) (.inr hz))));refine assignInOrder_cons (wpAny_bindName (gQ I4 hN hj (.inl hy) rw' (λs3 I5=>?_) (.inr hy)));refine assignInOrder_cons (wpAny_bindName (gQ I5 hN hi (.inl hx) rv (λs4 I6=>assignInOrder_nil (wpAny_pure ?_)) (.inr hx)));exact⟨_,H1,I6,q1⟩
end
inductive Kn where | aj | bl | int | str | tup | lst
def Kn.ty:Kn->String
 | .aj=>"NoneType" | .bl=>"bool" | .int=>"int" | .str=>"str" | .tup=>"tuple" | .lst=>"list"
def LH:V->Kn->Bool
 | .aj,.aj=>true
 | .bl _,.bl=>true
 | .int _,.int=>true
 | .str _,.str=>true
 | .ref _,.tup=>true
 | .ref _,.lst=>true
 | _,_=>false
structure kN (K:Fg)(H:Hp)(v:V)(k:Kn):Prop where
 ty:hJ K H v (.type k.ty)
 sh:LH v k=true
section
variable {K:Fg}{H:Hp}
theorem Kv:kN K H .aj .aj:=⟨.aj,rfl⟩
theorem N1 (b:Bool):kN K H (.bl b) .bl:=⟨.bl b,rfl⟩
theorem Lo (i:Int):kN K H (.int i) .int:=⟨.int i,rfl⟩
theorem KC (x:Str):kN K H (.str x) .str:=⟨.str x,rfl⟩
theorem M8 {a:Addr}{xs:List V}(e:H a=some (.tup xs)):kN K H (.ref a) .tup:=⟨.tup e,rfl⟩
theorem Ly {a:Addr}{xs:List V}(e:H a=some (.lst xs)):kN K H (.ref a) .lst:=⟨.lst e,rfl⟩
end
def isInt:Kn->Bool | .int=>true | .bl=>true | _=>false
def LN:Kn->Bool | .bl=>true | _=>false
def isStr:Kn->Bool | .str=>true | _=>false
def isTup:Kn->Bool | .tup=>true | _=>false
def Hr:Kn->Bool | .lst=>true | _=>false
theorem HP (K:Fg)(k:Kn):W.kitOne K (.type k.ty) (.type "int")=some (isInt k):=by cases k<;>with_unfolding_all rfl
theorem Ge (K:Fg)(k:Kn):W.kitOne K (.type k.ty) (.type "bool")=some (LN k):=by cases k<;>with_unfolding_all rfl
theorem Im (K:Fg)(k:Kn):W.kitOne K (.type k.ty) (.type "str")=some (isStr k):=by cases k<;>with_unfolding_all rfl
theorem kit_tuple (K:Fg)(k:Kn):W.kitOne K (.type k.ty) (.type "tuple")=some (isTup k):=by cases k<;>with_unfolding_all rfl
theorem Ga (K:Fg)(k:Kn):W.kitOne K (.type k.ty) (.type "list")=some (Hr k):=by cases k<;>with_unfolding_all rfl
section
variable {X:Cx}
def Oz (K:Fg)(f:Kn->Bool)(T:String):List V->Hp->VK->Prop:=λxs H Q=>∃x k,xs=[x,.ty T]/\kN K H x k/\Q (.bl (f k)) H
theorem CF {T:String}{f:Kn->Bool}(hk:∀k,W.kitOne X.K (.type k.ty) (.type T)=some (f k)):dt X (.builtin "isinstance") (Oz X.K f T):=by intro pins s σ H xs us Q I r h;obtain⟨x,k,rfl,kn,q⟩:=h;exact E8 pins s σ H _ us Q I r ⟨x,.ty T,_,.type T,_,rfl,rfl,λ_ z=>z,kn.ty,hk k,q⟩
end
end L2
namespace L2
open PySem
section
variable {M:Model}{A:Around}{E:Value->Sh->Prop}{s:Sh}
def Qa (h:Heap)(e:Addr)(vs:Array Value):Prop:=vs[1]?=some .none\/∃T oT ts,vs[1]?=some (.ref T)/\T≠e/\h.get? T=some oT/\oT.data = .fields ts/\ts[3]?=some .none
end
end L2
namespace L2
open PySem PySem.Spec PyProof.Rows
def lH (P:Program)(w:World):kL:=λouter H s E e s'=>∃(a C:Addr) (dx:Option Addr) (H':Hp) (o:Obj) (vs:Array Value),e = .ref a/\s'.os=s.os/\AllBare s'.gens/\Un (lO outer) [] H H' s.heap s'.heap/\aT P w H' s'.heap /\
 s.heap.get? a=none/\H' a=none/\s'.heap.get? a=some o/\o.cls = .ref C/\o.dict=dx/\o.data = .fields vs/\vs[2]?=some .none/\Qa s'.heap a vs/\E (.ref C) dx H'
section
variable {X:Cx}{pins:List (Addr×Obj)}{σ:St}{H:Hp}{s:Sh}
end
section
variable {X:Cx}
end
abbrev TJ:=St->Hp->Str->(Str->Hp->Prop)->Prop
section
variable {X:Cx}{pos:Pos}{e e1 e2:Expr}{es:List Expr}{te:TE}{t:TJ}
end
def AO (qual:Str)(c:Addr):HO:=.ext λh=>h.CodeRec (.ref c) qual
def rl (H:Hp)(P:Addr)(qual:Str):Prop:=∃ps,H P=some (.gq ps)/\TriplesOk ps.toList/\∀pos cv,codeAmong pos ps.toList=some cv->∃c,cv = .ref c/\H c=some (AO qual c)
def Hc (d:Addr)(H H':Hp):Prop:=∀b o,b≠d->H b=some o->H' b=some o
theorem rl.same {H H':Hp}{P:Addr}{q:Str}(x:rl H P q)(e:∀b o,H b=some o->H' b=some o):rl H' P q:=
 let ⟨ps,h1,h2,h3⟩:=x
 ⟨ps,e _ _ h1,h2,λpos cv h=>let ⟨c,e1,e2⟩:=h3 pos cv h;⟨c,e1,e _ _ e2⟩⟩
theorem rl.grown {H H':Hp}{P d:Addr}{q:Str}{od:HO}(x:rl H P q)(e:Hc d H H')(hd:H d=some od)(n1:∀ps,od ≠ .gq ps)(n2:∀c,od≠AO q c):rl H' P q:=
 let ⟨ps,h1,h2,h3⟩:=x
 ⟨ps,e _ _ (λz=>by rw[z,hd] at h1;exact n1 _ (Option.some.inj h1)) h1,h2,λpos cv h=>let ⟨c,e1,e2⟩:=h3 pos cv h;⟨c,e1,e _ _ (λz=>by rw[z,hd] at e2;exact n2 _ (Option.some.inj e2)) e2⟩⟩
def qD (mg:Str->Option Value)(base:Heap):Prop:=∃bm o,mg "__builtins__" = some (.ref bm)/\bm≠builtinsNs/\bm≠mainGlobals/\base.get? bm=some o/\o.cls = .type "module"/\o.dict=some builtinsNs/\o.data = .plain
section
variable {X:Cx}{pins:List (Addr×Obj)}{σ:St}{H:Hp}{s:Sh}
end
section
variable {X:Cx}{pins:List (Addr×Obj)}{σ:St}{H:Hp}{s:Sh}
end
end L2
namespace L2
open PySem
section
variable {prog:Program}{w:World}{A:Around}{E:Value->Sh->Prop}{s:Sh}
end
end L2
namespace L2
open PySem PySem.W
section
variable {prog:Program}{w:World}{A:Around}{E:Value->Sh->Prop}{s:Sh}{K:Frag}{x C:Addr}{ox:Obj}{odo:Option Obj}
end
end L2
namespace L2
open PySem PySem.Spec PyProof.Rows
section
variable {X:Cx}{pins:List (Addr×Obj)}{σ:St}{H:Hp}{s:Sh}
end
section
variable {X:Cx}
end
def oR (sc outer:Scope)(xs M:List Str):Bool:=
 (sc.kind == .function)&&sc.names.all (λp=>p.2 != NameKind.cell)&&xs.all (λx=>sc.names.lookup x==some NameKind.local)&&sc.names.all (λp=>p.2 != NameKind.local||sc.names.lookup p.1==some NameKind.local) &&
 sc.names.all (λp=>p.2 != NameKind.free||(outer.names.lookup p.1==some NameKind.cell||outer.names.lookup p.1==some NameKind.free))&&M.all (λy=>sc.names.lookup y != some NameKind.local)
structure jF (sc outer:Scope)(xs M:List Str):Prop where
 kind:sc.kind = .function
 lS:∀p∈sc.names,p.2≠NameKind.cell
 var:∀x∈xs,sc.names.lookup x=some NameKind.local
 locs:∀p∈sc.names,p.2=NameKind.local->sc.names.lookup p.1=some NameKind.local
 free:∀p∈sc.names,p.2=NameKind.free->outer.names.lookup p.1=some NameKind.cell\/outer.names.lookup p.1=some NameKind.free
 out:∀y∈M,sc.names.lookup y≠some NameKind.local
theorem jF.of {sc outer:Scope}{xs M:List Str}(h:oR sc outer xs M=true):jF sc outer xs M:=by
 unfold oR at h;simp only[Bool.and_eq_true,List.all_eq_true] at h;obtain⟨⟨⟨⟨⟨h1,h2⟩,h3⟩,h4⟩,h5⟩,h6⟩:=h;refine⟨eq_of_beq h1,λp hp=>by simpa using h2 p hp,λx hx=>eq_of_beq (h3 x hx),λp hp e=>?_,λp hp e=>?_,λy hy=>by simpa using h6 y hy⟩
 .have:=h4 p hp;rw[e] at this;simpa using this
 .have:=h5 p hp;rw[e] at this;simpa using this
def cN (X:Cx)(sc:Scope)(xs M:List Str)(C:Addr)(s:Sh)(H:Hp)(fp:List Addr):Cx:=
 { X with env:=compEnvC sc (cH X.env sc.names []) C X.env,N:=xs++M,s₀:=s,H₀:=H,outer:=X.stack,ex:=fp,fn:=λ_=>false,pn:=[],xe:=λ_ _=>False }
section
variable {X:Cx}{pins:List (Addr×Obj)}{σ:St}{H:Hp}{s:Sh}{sc:Scope}{xs M:List Str}{C:Addr}{fp:List Addr}
theorem zf (I:Inv X pins σ H s)(ok:jF sc X.env.scope xs M)(hC:s.heap.objs.size<=C)(hf:∀b∈fp,eM X pins H b)(hl:∀b∈fp,b<s.heap.objs.size):(cN X sc xs M C s H fp).Ok where
 mod:=I.ok.mod
 kind:=ok.kind
 glob:=I.ok.glob
 blt:=I.ok.blt
 above:=hC
 inj:=λa b c h1 h2=>by
  rcases eI _ _ _ _ _ h1 with h1 | h1
  .cases h1
  rcases eI _ _ _ _ _ h2 with h2 | h2
  .cases h2
  exact I.ok.inj a b c h1 h2
 has:=λy hy=>by
  have hm:(y,NameKind.free)∈sc.names:=by
   rcases hy with hy | hy
   .exact cQ ok.lS hy (.inl rfl)
   .exact cQ ok.lS hy (.inr rfl)
  exact mw X.env sc.names [] y hm (I.ok.has y (ok.free _ hm rfl))
 zX:=λy c h=>by cases h
 hd:=I.ok.hd
 frames:=I.ok.frames
 DL:=.inl rfl
 exf:=λb hb=>⟨Nat.ne_of_lt (Nat.lt_of_lt_of_le (hl b hb) hC),λy c h=>by
  rcases eI _ _ _ _ _ h with h | h
  .cases h
  .exact(hf b hb).2.2.2.2.1 y c h⟩
 bs:=I.bs
 qb:=Nat.le_trans I.ok.qb I.sz
 tM:=λb o e hb=>by
  rcases(hf b hb).2.2.2.1 with z | z
  .exact I.ok.tM b o e z
  .exact absurd (Nat.lt_of_lt_of_le (Heap.lt_size e) (Nat.le_trans I.ok.qb z)) (Nat.lt_irrefl _)
 xT:=λb hb oy=>by
  rcases List.mem_cons.mp (I.rj b oy) with z | z
  .exact(hf b hb).2.1 z
  .exact(hf b hb).2.2.1 z
 eg:=I.stack
 uS:=I.zU
theorem FC {s1:Sh}{m:Str->Option Value}(I:Inv X pins σ H s)(ok:jF sc X.env.scope xs M)(hM:∀(j:Nat) (y:Str),M[j]?=some y->(∃p∈sc.names,p.1=y)->X.N[j]?=some y)(hlen:M.length=X.N.length)(hC:s.heap.objs.size<=C)(hf:∀b∈fp,eM X pins H b)(hl:∀b∈fp,b<s.heap.objs.size)
 (hk:∀b o,s.heap.get? b=some o->s1.heap.get? b=some o) (hns:s1.heap.Ns C m) (sL:s1.os=s.os) (hg:s1.gens=s.gens):Inv (cN X sc xs M C s H fp) [] (List.replicate xs.length none++σ) H s1 where
 ok:=zf I ok hC hf hl
 os:=sL
 bare:=by rw[hg];exact I.bare
 base:=Un.kept hk
 loc:=⟨m,hns,λi y v h1 h2 h3=>by
  rcases Nat.lt_or_ge i xs.length with hi | hi
  .rw[List.getElem?_append_left (by simpa using hi),List.getElem?_replicate,if_pos hi] at h2;cases h2
  .obtain⟨j,rfl⟩:∃j,i=xs.length+j:=⟨i-xs.length,by omega⟩;have h1:M[j]?=some y:=by
    have h1:(xs++M)[xs.length+j]?=some y:=h1
    rwa [List.getElem?_append_right (by omega),Nat.add_sub_cancel_left] at h1
   have h2:σ[j]?=some (some v):=by
    rwa [List.getElem?_append_right (by simp),List.length_replicate,Nat.add_sub_cancel_left] at h2
   have hm:(y,NameKind.free)∈sc.names:=by
    rcases h3 with h3 | h3 | h3
    .exact absurd (fJ h3) (ok.out y (List.mem_of_getElem? h1))
    .exact cQ ok.lS h3 (.inl rfl)
    .exact cQ ok.lS h3 (.inr rfl)
   obtain⟨m0,hn0,x4⟩:=I.loc;have ko:=ok.free _ hm rfl;obtain⟨u,r,lk⟩:=x4 j y v (hM j y h1 ⟨_,hm,rfl⟩) h2 (.inr ko);refine⟨u,r,.inr ⟨?_,?_⟩⟩
   .rcases h3 with h3 | h3 | h3
    .exact absurd (fJ h3) (ok.out y (List.mem_of_getElem? h1))
    .exact .inl h3
    .exact .inr h3
   .rcases lk with⟨k,_⟩|⟨_,c,hc,z⟩
    .have k:X.env.scope.names.lookup y=some .local:=k;rcases ko with q | q
     .rw[q] at k;cases k
     .rw[q] at k;cases k
    .obtain⟨c',qd⟩:=mw X.env sc.names [] y hm ⟨c,hc⟩;have e:c'=c:=by
      rcases eI _ _ _ _ _ qd with q | q
      .cases q
      .rw[hc] at q;exact(Option.some.inj q).symm
     exact⟨c,e ▸ qd,z.keeps hk⟩⟩
 cell:=λy c h=>by
  rcases eI _ _ _ _ _ h with h | h
  .cases h
  .obtain⟨v,z⟩:=I.cell y c h;exact⟨v,z.keeps hk⟩
 free:=I.aq.fresh hC
 eV:=λy c h=>by
  rcases eI _ _ _ _ _ h with h | h
  .cases h
  .exact I.eV y c h
 pin:=λp hp=>absurd (show p∈([]:List (Addr×Obj)) from hp) (by simp)
 aq:=I.aq.kept hk
 len:=by show (List.replicate xs.length none++σ).length=(xs++M).length;rw[List.length_append,List.length_append,List.length_replicate,hlen,I.len]
end
def Ts (H H':Hp):Prop:=∀b xs,H b=some (.tup xs)->H' b=some (.tup xs)
theorem Ts.refl (H:Hp):Ts H H:=λ_ _ h=>h
def qK:HO->Prop
 | .lst _ | .dK _ | .dT _=>True
 | _=>False
theorem aX.qK {P:Program}{w:World}{H H':Hp}{h h':Heap}{a:Addr}{o:HO}(x:aX P w H h a o)(g:qK o)(k:∀u,h.get? a=some u->h'.get? a=some u)(ht:Ts H H'):aX P w H' h' a o:=by
 cases o with
 | lst xs=>obtain⟨z,ai,n,r,e⟩:=x;exact⟨z,ai,n,r,k _ e⟩
 | dK af=>obtain⟨z,y,vs,r,ob,es,ep,e,c⟩:=x;exact⟨z,y,vs,r,ob,es,ep,k _ e,c⟩
 | dT af=>obtain⟨z,y,xs,r,ob,es,ep,e,c⟩:=x;exact⟨z,y,xs,Paired.nN r λp q z=>⟨z.1,ht _ _ z.2.1,z.2.2⟩,ob,es,ep,k _ e,c⟩
 | _=>exact g.elim
structure AccAt (X:Cx)(pins:List (Addr×Obj))(D:Addr)(o:HO)(H:Hp)(s:Sh):Prop where
 fp:eM X pins H D
 young:X.s₀.heap.objs.size<=D
 ok:aX X.prog X.w H s.heap D o
 kind:qK o
theorem AccAt.obj {X:Cx}{pins:List (Addr×Obj)}{D:Addr}{o:HO}{H:Hp}{s:Sh}(A:AccAt X pins D o H s):∃ob,s.heap.get? D=some ob/\∀v,ob.data ≠ .cell v:=by
 have x:=A.ok;have g:=A.kind;cases o with
 | lst xs=>obtain⟨_,_,_,_,e⟩:=x;exact⟨_,e,λv z=>nomatch z⟩
 | dK af=>obtain⟨_,_,_,_,ob,_,_,e,_,d,_⟩:=x;exact⟨_,e,λv z=>by rw[d] at z;cases z⟩
 | dT af=>obtain⟨_,_,_,_,ob,_,_,e,_,d,_⟩:=x;exact⟨_,e,λv z=>by rw[d] at z;cases z⟩
 | _=>exact g.elim
section
variable {X:Cx}{pins:List (Addr×Obj)}{D:Addr}{o:HO}{H H':Hp}{s s':Sh}{σ σ':St}
theorem AccAt.pin (A:AccAt X pins D o H s)(I:Inv X pins σ H s){ob:Obj}(e:s.heap.get? D=some ob)(d:∀v,ob.data ≠ .cell v):Inv X (pins++[(D,ob)]) σ H s:=
 I.oE λp hp=>(List.mem_append.mp hp).elim (λz=>I.pin p (List.mem_append_right _ z)) λz=>by rw[List.mem_singleton.mp z];exact⟨e,A.fp.1,A.fp.2.1,A.fp.2.2.1,d⟩
theorem eM.to {b:Addr}(f:eM X pins H b)(n:H' b=none):eM X pins H' b:=⟨n,f.2⟩
theorem AccAt.back {ob:Obj}{pl:List (Addr×Obj)}(A:AccAt X pins D o H s)(e:s.heap.get? D=some ob)(I:Inv X pl σ' H' s')(hp:(D,ob)∈pl)(ts:Ts H H'):AccAt X pins D o H' s':=by obtain⟨e1,n1,_⟩:=I.pin (D,ob) (List.mem_append_right _ hp);exact⟨A.fp.to n1,A.young,A.ok.qK A.kind (λu h=>by rw[e] at h;cases h;exact e1) ts,A.kind⟩
theorem AccAt.more {pl:List (Addr×Obj)}(A:AccAt X pins D o H s)(h:∀p∈pl,p.1≠D):AccAt X (pins++pl) D o H s:=
 ⟨⟨A.fp.1,A.fp.2.1,A.fp.2.2.1,A.fp.2.2.2.1,A.fp.2.2.2.2.1,λp hp=>by
  rw[<-List.append_assoc] at hp;rcases List.mem_append.mp hp with z | z
  .exact A.fp.2.2.2.2.2 p z
  .exact h p z⟩,A.young,A.ok,A.kind⟩
theorem AccAt.less {pl:List (Addr×Obj)}(A:AccAt X (pins++pl) D o H s):AccAt X pins D o H s:=
 ⟨⟨A.fp.1,A.fp.2.1,A.fp.2.2.1,A.fp.2.2.2.1,A.fp.2.2.2.2.1,λp hp=>A.fp.2.2.2.2.2 p (by rw[<-List.append_assoc];exact List.mem_append_left _ hp)⟩,A.young,A.ok,A.kind⟩
end
abbrev TB (α:Type):=α->St->Hp->(α->St->Hp->Prop)->Prop
def PB {α:Type}(X:Cx)(D:Addr)(ob:α->HO)(m:Sem Unit)(t:TB α):Prop:=
 ∀(pins:List (Addr×Obj)) (s:Sh) (σ:St) (H:Hp) (a:α) (Q:α->St->Hp->Prop),Inv X pins σ H s->AccAt X pins D (ob a) H s->t a σ H Q ->
  wpAny (model X.prog X.w) X.A m (λ_ s'=>∃a' σ' H',Inv X pins σ' H' s'/\AccAt X pins D (ob a') H' s'/\Q a' σ' H') X.xe s
section
variable {X:Cx}{D:Addr}
def GH (te:TE):TB (List V):=λys σ H Q=>te σ H λy H'=>ys.length<sizeLine/\Ts H H'/\Q (ys++[y]) σ H'
theorem J4 {elt:Expr}{te:TE}(he:PE X elt te):PB X D HO.lst (eval elt X.env >>= λx=>call (.builtin "list.append") [.ref D,x] >>= λ_=>pure ()) (GH te):=by
 intro pins s σ H ys Q I A h;obtain⟨ob,e,d⟩:=A.obj;refine wpAny_bind (aQ (he _ s σ H _ (A.pin I e d) h) λu s1 ⟨y,H1,I1,r1,hz,ts,q⟩=>?_);have A1:=A.back e I1 (List.mem_append_right _ (List.mem_singleton.mpr rfl)) ts;obtain⟨hl,ai,n,rv,e1⟩:=A1.ok;have I1':=I1.fU;refine wpAny_bind (append_at e1 (λh' x5 hD'=>wpAny_pure ⟨ys++[y],σ,H1,?_,?_,q⟩) (by rw[List.size_toArray,<-rv.length];exact hl))
 .exact I1'.turned (t':=s1.toks) (it:=D) (λb o hb e=>(x5.2 b hb).trans e) A1.fp.1 A1.fp.2.1 A1.fp.2.2.2.1 A1.fp.2.2.2.2.1 A1.fp.2.2.2.2.2
 .exact⟨A1.fp,A1.young,⟨by rw[List.length_append,List.length_singleton];omega,ai++[u],n+1,rv.append (.cons r1 .nil),by rw[hD'];simp⟩,trivial⟩
end
def zD {α:Type}(J:It)(gt:TG)(tt:TT)(tb:TB α)(R:α->St->Hp->Prop)(a:α)(σ:St)(H:Hp):Prop:=
 ∃W:Nat->Nat->α->St->Hp->Prop,(∃m,W 0 m a σ H)/\∀i m a σ H,W i m a σ H ->
  (J.stop i H/\R a σ H)\/(J.go i H/\∃N:α->St->Hp->Prop,(∀a' σ' H',N a' σ' H'->∃m',m'<m/\W (i+1) m' a' σ' H') /\
    ∀x H',J.xW i H x H'->Ts H H'/\gt x σ H' λσ2 H2=>Ts H H2/\tt σ2 H2 λb H3=>Ts H H3/\if b=true then tb a σ2 H3 N else N a σ2 H3)
def nv (X:Cx)(e:Expr)(d:Nat)(it D:Addr)(tg:Expr)(ifs:List Expr)(fP:Sem Unit):Prop:=∀(I:Nat->Sh->Prop) (R:Result->Sh->Prop),
 (∀n s,I n s->wpAny (model X.prog X.w) X.A (pyNext (.ref it)) (λr s₁=>match r with
   | none=>R (.ok .next) s₁
   | some v=>wpAny (model X.prog X.w) X.A (letOwnedTupleGo tg (.ref it) v) (λ_ s₂=>wpAny (model X.prog X.w) X.A (assign tg X.env v) (λ_ s₃=>
    wpAny (model X.prog X.w) X.A (forIn ifs true λc r=>if r=true then do let ok <-isTrue c X.env (eval c X.env);pure (ForInStep.yield ok) else pure (ForInStep.yield r)) (λok s₄=>
     if ok=true then wpAny (model X.prog X.w) X.A fP (λ_ s₅=>∃m,m<n/\I m s₅) (λ_ _=>False) s₄ else ∃m,m<n/\I m s₄) (λ_ _=>False) s₃) (λ_ _=>False) s₂) (λ_ _=>False) s₁) (λ_ _=>False) s) ->
 ∀n s,I n s->codeAny (model X.prog X.w) X.A (.compLoop e d (.ref it) (.ref D) X.env) R s
section
variable {X:Cx}{D:Addr}{α:Type}{ob:α->HO}{fP:Sem Unit}{tb:TB α}{gt:TG}{tt:TT}{J:It}{fp:List Addr}{it:Addr}{tn:Nat->Heap->Prop}{tg e:Expr}{d:Nat}{ifs:List Expr}{pins:List (Addr×Obj)}{s:Sh}{σ:St}{H:Hp}{a:α}{R:α->St->Hp->Prop}{q:Cx->Prop}
theorem DB (hx:X.xe=λ_ _=>False)(L:nv X e d it D tg ifs fP)(T:Bl q X.prog X.w X.K tg J fp it tn)(hq:q X)(hD:D∉fp)(hG:PG X tg gt)(ht:PF X ifs tt)(hb:PB X D ob fP tb)
 (I:Inv X pins σ H s) (A:AccAt X pins D (ob a) H s) (st:tn 0 s.heap) (hf:∀b∈fp,eM X pins H b) (h:zD J gt tt tb R a σ H):
 codeAny (model X.prog X.w) X.A (.compLoop e d (.ref it) (.ref D) X.env) (λr s'=>r = .ok .next/\∃a' σ' H',Inv X pins σ' H' s'/\AccAt X pins D (ob a') H' s'/\R a' σ' H') s:=by
 obtain⟨W,⟨m0,w0⟩,turn⟩:=h;refine L (λn s'=>∃i a' σ' H',Inv X pins σ' H' s'/\AccAt X pins D (ob a') H' s'/\tn i s'.heap/\(∀b∈fp,H' b=none)/\W i n a' σ' H') _ ?_ m0 s ⟨0,a,σ,H,I,A,st,λb hb=>(hf b hb).1,w0⟩;rintro n s3 ⟨i,a3,σ3,H3,I3,A3,DS,mV,w3⟩;obtain⟨o3,e3,d3⟩:=A3.obj;have I3':=A3.pin I3 e3 d3;have qR:∀{H':Hp},(∀b∈fp,H' b=none)->∀b∈fp,eM X (pins++[(D,o3)]) H' b:=λhn b hb=>by
  obtain⟨_,f1,f2,f3,f4,f5⟩:=hf b hb;refine⟨hn b hb,f1,f2,f3,f4,λp hp=>?_⟩;rw[<-List.append_assoc] at hp;rcases List.mem_append.mp hp with z | z
  .exact f5 p z
  .rw[List.mem_singleton.mp z];intro y;subst y;exact hD hb
 rcases turn i n a3 σ3 H3 w3 with⟨stop,qn⟩|⟨go,N,hN,step⟩
 .refine aQ (T.done X rfl rfl rfl hq i _ s3 σ3 H3 _ I3' (qR mV) DS stop) λr s4 ⟨hr,I4⟩=>?_;subst hr;exact⟨rfl,a3,σ3,H3,I4.fU,A3.back e3 I4 (List.mem_append_right _ (List.mem_singleton.mpr rfl)) (Ts.refl _),qn⟩
 .refine aQ (T.item X rfl rfl rfl hq i _ s3 σ3 H3 _ I3' (qR mV) DS go) λr s4 ⟨u,hr,h4⟩=>?_;subst hr;refine aQ h4 λ_ s5 ⟨x,H5,I5,r5,y5,xX,zY⟩=>?_;obtain⟨ts5,step⟩:=step x H5 y5;have I5':=I5.pinned (qR zY) (T.obj _ _ xX);have mD:∀{l:List (Addr×Obj)},(D,o3)∈(pins++[(D,o3)])++l:=λ{l}=>List.mem_append_left _ (List.mem_append_right _ (List.mem_singleton.mpr rfl));have hg:=hG _ s5 σ3 H5 x u _ I5' r5 step;rw[hx] at hg;refine aQ hg λ_ s6 ⟨σ6,H6,I6,ts6,q6⟩=>?_;have hte:=ht _ s6 σ6 H6 _ I6 q6;rw[hx] at hte;refine aQ hte λb s7 ⟨H7,I7,ts7,q7⟩=>?_;have back:∀{pl:List (Addr×Obj)} {σ8:St} {H8:Hp} {s8:Sh},Inv X pl σ8 H8 s8->(∀p∈lb fp s5.heap,p∈pl)->tn (i+1) s8.heap/\∀b∈fp,H8 b=none:=λ{pl σ8 H8 s8} I8 hs=>by refine⟨T.keep _ _ _ xX λb hb o e=>(I8.pin (b,o) (List.mem_append_right _ (hs _ (jC hb e)))).1,λb hb=>?_⟩;obtain⟨o,e,d⟩:=T.obj _ _ xX b hb;exact(I8.pin (b,o) (List.mem_append_right _ (hs _ (jC hb e)))).2.1
  have A7:=A3.back e3 I7 mD ts7;cases b with
  | false=>simp only[Bool.false_eq_true,if_false] at q7 ⊢;obtain⟨m',hm,w7⟩:=hN _ _ _ q7;obtain⟨b1,b2⟩:=back I7 λp hp=>List.mem_append_right _ hp;exact⟨m',hm,i+1,a3,σ6,H7,I7.fU.fU,A7,b1,b2,w7⟩
  | true=>
   simp only[if_true] at q7 ⊢;have I7':Inv X (pins++lb fp s5.heap) σ6 H7 s7:=I7.oE λp hp=>I7.pin p (List.mem_append_right _ (by
    rcases List.mem_append.mp hp with z | z
    .exact List.mem_append_left _ (List.mem_append_left _ z)
    .exact List.mem_append_right _ z))
   have hbb:=hb _ s7 σ6 H7 a3 _ I7' (A7.more λp hp z=>hD (by rw[<-z];exact(uf hp).1)) q7;rw[hx] at hbb;refine aQ hbb λ_ s8 ⟨a8,σ8,H8,I8,A8,q8⟩=>?_;obtain⟨m',hm,w8⟩:=hN _ _ _ q8;obtain⟨b1,b2⟩:=back I8 λp hp=>List.mem_append_right _ hp;exact⟨m',hm,i+1,a8,σ8,H8,I8.fU,A8.less,b1,b2,w8⟩
end
def A9 (p:Pos)(it:Value)(tg:Expr)(env:Env)(ifs:List Expr)(fP:Sem Unit)(c:Code):Sem Fin:=standAt p >>= λ_=>pyNext it >>= λr=>match r with
 | none=>pure (.done .next)
 | some v=>letOwnedTupleGo tg it v >>= λ_=>assign tg env v >>= λ_=>
  (forIn ifs true λc r=>if r=true then do let ok <-isTrue c env (eval c env);pure (ForInStep.yield ok) else pure (ForInStep.yield r)) >>= λok=>if ok=true then fP >>= λ_=>again c else again c
def F3 (elt:Expr)(D:Addr)(env:Env):Sem Unit:=eval elt env >>= λx=>call (.builtin "list.append") [.ref D,x] >>= λ_=>pure ()
section
variable {elt kx vx tg tg1 iter BD:Expr}{ifs Gv:List Expr}{sc:Scope}{pos:Pos}{it:Value}{D:Addr}{env:Env}
theorem Ms:compTurn (.ListComp elt [⟨tg,iter,ifs,0⟩] sc pos) 0 it (.ref D) env=A9 iter.pos it tg env ifs (F3 elt D env) (.compLoop (.ListComp elt [⟨tg,iter,ifs,0⟩] sc pos) 0 it (.ref D) env):=rfl
end
section
variable {X:Cx}{it D:Addr}{e tg:Expr}{d:Nat}{ifs:List Expr}{fP:Sem Unit}{p:Pos}
theorem Jw (hq:(Code.compLoop e d (.ref it) (.ref D) X.env).quiet=true)(hd:(model X.prog X.w).den (.compLoop e d (.ref it) (.ref D) X.env)=(compTurn e d (.ref it) (.ref D) X.env).onRaise (λx=>do noteFrame x X.env;theTreesLotGoes x))
 (ha:X.A.under (.compLoop e d (.ref it) (.ref D) X.env)=X.A) (ht:compTurn e d (.ref it) (.ref D) X.env=A9 p (.ref it) tg X.env ifs fP (.compLoop e d (.ref it) (.ref D) X.env)):nv X e d it D tg ifs fP:=by
 intro I R turn n s h;refine codeAny_loop hq I (λn s hI=>?_) n h;rw[hd,ha,ht];refine wpAny_noted ?_;unfold A9;refine wpAny_bind (wpAny_standAt (wpAny_bind (wpAny_mono (turn n s hI) (λr s₁ h₁=>?_) λ_ _ h'=>h'.elim)));cases r with
 | none=>exact wpAny_pure h₁
 | some v=>
  refine wpAny_bind (wpAny_mono h₁ (λ_ s₂ h₂=>wpAny_bind (wpAny_mono h₂ (λ_ s₃ h₃=>wpAny_bind (wpAny_mono h₃ (λok s₄ h₄=>?_) λ_ _ h'=>h'.elim)) λ_ _ h'=>h'.elim)) λ_ _ h'=>h'.elim);cases ok with
  | false=>exact wpAny_pure ⟨rfl,h₄⟩
  | true=>exact wpAny_bind (wpAny_mono h₄ (λ_ s₅ h₅=>wpAny_pure ⟨rfl,h₅⟩) λ_ _ h'=>h'.elim)
end
section
variable {X:Cx}{elt kx vx tg tg1 iter BD:Expr}{ifs Gv:List Expr}{sc:Scope}{pos:Pos}{it D:Addr}
theorem KJ:nv X (.ListComp elt [⟨tg,iter,ifs,0⟩] sc pos) 0 it D tg ifs (F3 elt D X.env):=Jw rfl rfl rfl Ms
end
def oH (prog:Program)(w:World)(e:Expr)(d:Nat):Prop:=∀(A:Around) (it acc:Value) (env:Env) (R:Result->Sh->Prop) (s:Sh),
 codeAny (model prog w) A (.compLoop e d it acc env) R s->wpAny (model prog w) A (pyIter it) (λit' s'=>codeAny (model prog w) A (.compLoop e d it' acc env) R s') (λ_ _=>False) s->codeAny (model prog w) A (.compStart e d it acc env) R s
section
variable {prog:Program}{w:World}{elt kx vx tg tg1 iter BD:Expr}{ifs Gv:List Expr}{sc:Scope}{pos:Pos}
theorem FZ {e:Expr}{d:Nat}{p:Pos} (hd:∀it acc env,(model prog w).den (.compStart e d it acc env)=(ask >>= λt=>if t.params.followText "comprehension-iter-twice" = true then again (.compLoop e d it acc env) else
 rule "comprehension.iter-twice" >>= λ_=>standAt p >>= λ_=>pyIter it >>= λit'=>again (.compLoop e d it' acc env)).onRaise (λx=>do noteFrame x env;standAt theWindowsPlace)) (hu:∀A it acc env,Around.under A (.compStart e d it acc env)=A):oH prog w e d:=by
 intro A it acc env R s h0 h;refine codeAny_of_tree ?_;rw[hu];rw[hd];refine wpAny_notedAt ?_;refine wpAny_bind (wpAny_askSetting (wpAny_ite ?_));split
 .exact wpAny_pure (And.intro rfl h0)
 .exact wpAny_bind (wpAny_rule (wpAny_bind (wpAny_standAt (wpAny_bind (wpAny_mono h (λit' s' h'=>wpAny_pure (And.intro rfl h')) λ_ _ x=>x.elim)))))
theorem JO:oH prog w (.ListComp elt [⟨tg,iter,ifs,0⟩] sc pos) 0:=FZ (p:=iter.pos) (λ_ _ _=>rfl) λ_ _ _ _=>rfl
end
section
variable {X:Cx}{pins:List (Addr×Obj)}{σ:St}{H:Hp}{s:Sh}{sc:Scope}{xs M:List Str}{fp:List Addr}{J:It}{it:Addr}{tn:Nat->Heap->Prop}{e tg:Expr}{ifs:List Expr}{gt:TG}{tt:TT}{α:Type}{ob:α->HO}{tb:TB α}{a0:α}{R:α->Hp->Prop}{fP:Addr->Env->Sem Unit}{mk:Sem Value}{o0:Obj}
theorem qU {E:Value->Sh->Prop}{RR:Value->Addr->Result->Sh->Prop}(I:Inv X pins σ H s)(ok:jF sc X.env.scope xs M)(hM:∀(j:Nat) (y:Str),M[j]?=some y->(∃p∈sc.names,p.1=y)->X.N[j]?=some y)(hlen:M.length=X.N.length){q:Cx->Prop}(hq:∀C,q (cN X sc xs M C s H fp))
 (lT:∀(Q:Value->Sh->Prop) (E:Value->Sh->Prop) (s:Sh),Q (.ref s.heap.objs.size) { s with heap:=s.heap.push o0 }->wpAny (model X.prog X.w) X.A mk Q E s) (x6:o0.isFreed=false) (hk:∀a,qK (ob a)) (h0:∀(h:Heap) (D:Addr),h.get? D=some o0->sysModules<D->aX X.prog X.w H h D (ob a0))
 (S:oH X.prog X.w e 0) (L:∀C D,nv (cN X sc xs M C s H fp) e 0 it D tg ifs (fP D (cN X sc xs M C s H fp).env))
 (T:Bl q X.prog X.w X.K tg J fp it tn) (st:tn 0 s.heap) (hf:∀b∈fp,eM X pins H b)
 (hG:∀C,PG (cN X sc xs M C s H fp) tg gt) (ht:∀C,PF (cN X sc xs M C s H fp) ifs tt) (hb:∀C D,PB (cN X sc xs M C s H fp) D ob (fP D (cN X sc xs M C s H fp).env) tb)
 (h:zD J gt tt tb (λa _ H=>R a H) a0 (List.replicate xs.length none++σ) H)
 (hRR:∀D C a H' s' m,R a H'->H' D=none->Inv X pins σ (upd H' D (ob a)) s'->eM X pins (upd H' D (ob a)) C->s'.heap.Ns C m->RR (.ref D) C (.ok .next) s'):
 wpAny (model X.prog X.w) X.A mk (λacc s₃=>wpAny (model X.prog X.w) X.A (newFunctionEnv sc X.env.globals (cH X.env sc.names []) [] X.env.qual none .none (some X.env)) (λNh s₄=>
  codeAny (model X.prog X.w) X.A (.compStart e 0 (.ref it) acc { Nh with scope:=relabel sc X.env }) (RR acc Nh.locals) s₄) E s₃) E s:=by
 refine lT _ _ _ (wpAny_newFunctionEnv ok.lS (by intro y hy;simp at hy) (λh₁ Gw BE=>?_) ok.kind);dsimp only at Gw BE ⊢;generalize hH2:s.heap.push o0=H2 at Gw BE ⊢;have hC:H2.objs.size=s.heap.objs.size+1:=by rw[<-hH2,Heap.size_push]
 have hDC:s.heap.objs.size≠H2.objs.size:=by rw[hC];exact Nat.ne_of_lt (Nat.lt_succ_self _)
 have BF:s.heap.objs.size<=H2.objs.size:=by rw[hC];exact Nat.le_succ _
 have hl:∀b∈fp,b<s.heap.objs.size:=λb hb=>by obtain⟨o,e,_⟩:=T.obj 0 _ st b hb;exact Heap.lt_size e
 have old:∀b o,s.heap.get? b=some o->h₁.get? b=some o:=λb o e=>
  (BE.2 b (by rw[hC];exact Nat.ne_of_lt (Nat.lt_succ_of_lt (Heap.lt_size e)))).trans (Heap.get?_push_of_some _ (hH2 ▸ Heap.get?_push_of_some _ e))
 have tN:h₁.get? s.heap.objs.size=some o0:=(BE.2 _ hDC).trans (Heap.get?_push_of_some _ (hH2 ▸ Heap.get?_push_size _ x6));have I0:Inv (cN X sc xs M H2.objs.size s H fp) [] (List.replicate xs.length none++σ) H { s with heap:=h₁,toks:=s.toks+([]:List (Str×Value)).length }:=FC I ok hM hlen BF hf hl old Gw rfl rfl;have fsF:∀{b:Addr},b≠X.env.locals->b∉X.fs->b∉lO X.stack:=λ{b} h1 h2 z=>by
  rcases List.mem_cons.mp (I.rj b z) with q | q
  .exact h1 q
  .exact h2 q
 have rS:∀y c,(cH X.env sc.names []).lookup y=some c->c<s.heap.objs.size:=λy c e=>by
  rcases eI _ _ _ _ _ e with q | q
  .cases q
  .obtain⟨v,z⟩:=I.cell y c q;exact z.lt
 have f0:=I.mv (b:=s.heap.objs.size) (H':=H) (Nat.le_refl _) (I.aq.fresh (Nat.le_refl _));have A0:AccAt (cN X sc xs M H2.objs.size s H fp) [] s.heap.objs.size (ob a0) H { s with heap:=h₁,toks:=s.toks+([]:List (Str×Value)).length }:=
  ⟨⟨f0.1,hDC,fsF f0.2.1 f0.2.2.1,.inr (Nat.le_refl _),λy c e z=>absurd (rS y c e) (by rw[z];exact Nat.lt_irrefl _),λp hp=>absurd (show p∈([]:List (Addr×Obj)) from hp) (by simp)⟩,Nat.le_refl _,h0 _ _ tN I.big,hk _⟩
 have hD:s.heap.objs.size∉fp:=λz=>absurd (hl _ z) (Nat.lt_irrefl _);have fB:∀b∈fp,eM (cN X sc xs M H2.objs.size s H fp) [] H b:=λb hb=>
  ⟨(hf b hb).1,Nat.ne_of_lt (Nat.lt_of_lt_of_le (hl b hb) BF),fsF (hf b hb).2.1 (hf b hb).2.2.1,.inl hb,((zf I ok BF hf hl).exf b hb).2,λp hp=>absurd (show p∈([]:List (Addr×Obj)) from hp) (by simp)⟩
 have loop:∀s₃:Sh,s₃={ s with heap:=h₁,toks:=s.toks+([]:List (Str×Value)).length } ->
  codeAny (model X.prog X.w) X.A (.compLoop e 0 (.ref it) (.ref s.heap.objs.size) (compEnvC sc (cH X.env sc.names []) H2.objs.size X.env)) (RR (.ref s.heap.objs.size) H2.objs.size) s₃:=by
  rintro s₃ rfl;refine codeAny_mono (DB (X:=cN X sc xs M H2.objs.size s H fp) rfl (L _ _) T (hq _) hD (hG _) (ht _) (hb _ _) I0 A0 (T.keep 0 _ _ st λb hb o e=>old b o e) fB h) λr s4 hr=>?_;obtain⟨rfl,a,σ',H',I4,A4,q⟩:=hr;have I5:Inv X pins σ H' s4:=I.NU (ch:=fp) I4.os I4.base I4.aq I4.bare λb hb=>⟨(hf b hb).2.2.2.1,(hf b hb).2.1,(hf b hb).2.2.2.2.1,(hf b hb).2.2.2.2.2⟩;obtain⟨m,hn,_⟩:=I4.loc;have nD:H' s.heap.objs.size=none:=A4.fp.1;have tsD:Ts H' (upd H' s.heap.objs.size (ob a)):=λb xs e=>by rw[ax (bF e nD)];exact e
  have I6:Inv X pins σ (upd H' s.heap.objs.size (ob a)) s4:=I5.Bm (I.mv (Nat.le_refl _) nD) I.sz (A4.ok.qK A4.kind (λ_ e=>e) tsD);refine hRR _ _ a H' s4 m q nD I6 (I.mv BF ?_) hn;rw[ax (Ne.symm hDC)];exact I4.free
 exact S X.A (.ref it) _ _ _ _ (loop _ rfl) (T.self X.A 0 _ _ _ (T.keep 0 _ _ st λb hb o e=>old b o e) (loop _ rfl))
end
structure G1 (P:Program)(w:World)(α:Type)(ob:α->HO)(a0:α)(mk:Sem Value):Prop where
 kind:∀a,qK (ob a)
 made:∃o0:Obj,o0.isFreed=false/\(∀(A:Around) (Q:Value->Sh->Prop) (E:Value->Sh->Prop) (s:Sh),Q (.ref s.heap.objs.size) { s with heap:=s.heap.push o0 }->wpAny (model P w) A mk Q E s) /\
  ∀(H:Hp) (h:Heap) (D:Addr),h.get? D=some o0->sysModules<D->aX P w H h D (ob a0)
theorem JS {P:Program}{w:World}:G1 P w (List V) HO.lst [] (newList []) where
 kind:=λ_=>trivial
 made:=⟨_,rfl,λA Q E s h=>wpAny_newObj_type h,λH h D e _=>⟨Nat.zero_le _,[],0,.nil,e⟩⟩
structure Hy (X:Cx)(e:Expr)(sc:Scope)(tg iter:Expr)(ifs:List Expr)(mk:Sem Value)(fP:Addr->Env->Sem Unit):Prop where
 cl:∃gs,clausesOf e=⟨tg,iter,ifs,0⟩::gs
 ev:∃p,eval e X.env=comprehension e sc X.env p mk false (eval iter X.env)
 start:∀(P:Program) (w:World),oH P w e 0
 loop:∀(X:Cx) it D,nv X e 0 it D tg ifs (fP D X.env)
section
variable {X:Cx}{elt kx vx tg tg1 iter BD:Expr}{ifs Gv:List Expr}{sc:Scope}{pos:Pos}
theorem Oc:Hy X (.ListComp elt [⟨tg,iter,ifs,0⟩] sc pos) sc tg iter ifs (newList []) (F3 elt):=⟨⟨_,rfl⟩,⟨_,rfl⟩,λ_ _=>JO,λ_ _ _=>KJ⟩
end
def OO {α:Type}(wi:TI)(gt:TG)(tt:TT)(tb:TB α)(ob:α->HO)(a0:α)(n:Nat):TE:=λσ H Q=>wi σ H λJ H1=>zD J gt tt tb (λa _ H2=>∀D,H2 D=none->Q (.ref D) (upd H2 D (ob a))) a0 (List.replicate n none++σ) H1
section
variable {X:Cx}{e tg iter:Expr}{ifs:List Expr}{sc:Scope}{pos:Pos}{mk:Sem Value}{fP:Addr->Env->Sem Unit}{xs M:List Str}{wi:TI}{gt:TG}{tt:TT}{α:Type}{tb:TB α}{ob:α->HO}{a0:α}
theorem vM {pins:List (Addr×Obj)}{σ:St}{H:Hp}{s:Sh}(I:Inv X pins σ H s)(ok:jF sc X.env.scope xs M):closureFor sc X.env=pure (cH X.env sc.names []):=
 vi λp hp e=>I.ok.has p.1 (ok.free p hp e)
theorem y7 (hc:X.calm=true)(c:Hy X e sc tg iter ifs mk fP)(lT:G1 X.prog X.w α ob a0 mk)(ok:oR sc X.env.scope xs M=true)(hM:∀(j:Nat) (y:Str),M[j]?=some y->(∃p∈sc.names,p.1=y)->X.N[j]?=some y)(hlen:M.length=X.N.length)
 (hi:PI X tg iter wi) (hG:∀C s H fp,PG (cN X sc xs M C s H fp) tg gt) (ht:∀C s H fp,PF (cN X sc xs M C s H fp) ifs tt) (hb:∀C s H fp D,PB (cN X sc xs M C s H fp) D ob (fP D (cN X sc xs M C s H fp).env) tb)
 (hs:∀x,foldedSetIterable iter X.env x=pure x):PE X e (OO wi gt tt tb ob a0 xs.length):=by
 intro pins s σ H Q I h;have ok:=jF.of ok;obtain⟨gs,m4⟩:=c.cl;obtain⟨p,ev⟩:=c.ev;obtain⟨o0,x6,hm,h0⟩:=lT.made;rw[ev];refine wpAny_comprehension_free (use:=none) m4 hs (vM I ok) ok.kind ok.locs (aQ (hi pins s σ H _ I h) λv s1 h1=>aQ h1 λitv s2 h2=>?_);obtain⟨it,fp,tn,J,H2,rfl,I2,T,DR,f2,lw⟩:=h2;refine qU (RR:=λacc C=>compPost (model X.prog X.w) X.A X.xe none (EP X pins σ Q) acc C) I2 ok hM hlen (λ_=>hc) (λQ E s=>hm X.A Q E s) x6 lT.kind (λh D=>h0 _ h D) (c.start _ _) (λC D=>c.loop _ it D) T.q DR f2 (λC=>hG _ _ _ _) (λC=>ht _ _ _ _) (λC D=>hb _ _ _ _ _) lw ?_;intro D C a H' s' m q hD I' fC hn;exact⟨m,hn,λh' x5=>⟨.ref D,_,I'.turned (t':=s'.toks) (it:=C) (λb o hb e=>(x5.2 b hb).trans e) fC.1 fC.2.1 fC.2.2.2.1 fC.2.2.2.2.1 fC.2.2.2.2.2,rfl,q D hD⟩⟩
theorem zd {y:Str}{py Gx:Pos}{i:Nat}(hc:X.calm=true)(hN:X.N.Nodup)(hiy:X.N[i]?=some y)(hy:X.env.scope.names.lookup y=some .local)
 (hsw:exec (.Assign [.Name y py] e Gx) X.env=(standAt Gx >>= λ_=>(do let _ <-comprehension e sc X.env pos mk false (eval iter X.env) (some (assign (.Name y py) X.env))) >>= λ_=>pure .next))
 (c:Hy X e sc tg iter ifs mk fP) (lT:G1 X.prog X.w α ob a0 mk) (ok:oR sc X.env.scope xs M=true) (hM:∀(j:Nat) (y:Str),M[j]?=some y->(∃p∈sc.names,p.1=y)->X.N[j]?=some y) (hlen:M.length=X.N.length)
 (hi:PI X tg iter wi) (hG:∀C s H fp,PG (cN X sc xs M C s H fp) tg gt) (ht:∀C s H fp,PF (cN X sc xs M C s H fp) ifs tt) (hb:∀C s H fp D,PB (cN X sc xs M C s H fp) D ob (fP D (cN X sc xs M C s H fp).env) tb)
 (hs:∀x,foldedSetIterable iter X.env x=pure x):PS X (.Assign [.Name y py] e Gx) (LU i (OO wi gt tt tb ob a0 xs.length)):=by
 intro pins s σ H D I h;have ok:=jF.of ok;obtain⟨gs,m4⟩:=c.cl;obtain⟨o0,x6,hm,h0⟩:=lT.made;rw[hsw];refine wpAny_bind (wpAny_standAt (wpAny_bind (wpAny_bind (wpAny_mono (wpAny_comprehension_free (use:=some (assign (.Name y py) X.env)) (Q:=λ_ s'=>SP X pins D .next s') m4 hs (vM I ok) ok.kind ok.locs
  (aQ (hi pins s σ H _ I h) λv s1 h1=>aQ h1 λitv s2 h2=>?_)) (λ_ s' hq=>wpAny_pure (wpAny_pure hq)) λ_ _ e=>e))))
 obtain⟨it,fp,tn,J,H2,rfl,I2,T,DR,f2,lw⟩:=h2;refine qU (RR:=λacc C=>compPost (model X.prog X.w) X.A X.xe (some (assign (.Name y py) X.env)) (λ_ s'=>SP X pins D .next s') acc C) I2 ok hM hlen (λ_=>hc) (λQ E s=>hm X.A Q E s) x6 lT.kind (λh D=>h0 _ h D) (c.start _ _) (λC D=>c.loop _ it D) T.q DR f2 (λC=>hG _ _ _ _) (λC=>ht _ _ _ _) (λC D=>hb _ _ _ _ _) lw ?_;intro L C a H' s' m q hD I' fC hn;show wpAny _ X.A (assign (.Name y py) X.env (.ref L)) _ _ _;refine wpAny_assign_Name (uI (v:=.ref L) I' hN hiy (.inl hy) rfl (λs2 I2 sJ=>?_) (.inr hy));obtain⟨ad,sb,ha⟩:=sJ;have hCa:C≠ad:=by
  rcases ha with e | e
  .rw[e];exact fC.2.1
  .exact Ne.symm (fC.2.2.2.2.1 _ _ e)
 exact⟨m,hn.sameBut sb hCa,λh' x5=>⟨_,_,I2.turned (t':=s2.toks) (it:=C) (λb o hb e=>(x5.2 b hb).trans e) fC.1 fC.2.1 fC.2.2.2.1 fC.2.2.2.2.1 fC.2.2.2.2.2,q L hD⟩⟩
end
section
variable {X:Cx}{sc:Scope}{x:Str}{px pos:Pos}{elt iter:Expr}{ifs:List Expr}{tt:TT}{te tl:TE}
end
end L2
namespace L2
open PySem PySem.Spec PyProof.Rows PySem.SeqAt
section
variable {X:Cx}
end
section
variable {X:Cx}
end
end L2
namespace L2
open PySem PySem.Spec PyProof.Rows
section
variable {prog:Program}{w:World}{A:Around}{E:Value->Sh->Prop}{s:Sh}{K:Fg}
end
section
variable {X:Cx}{pins:List (Addr×Obj)}{σ:St}{H:Hp}{s:Sh}
end
section
variable {P:Program}{w:World}{K:Fg}{mg:Str->Option Value}{base:Heap}{A:Around}{outer:List Env}{s:Sh}{H:Hp}
end
def told (wd:Addr->Str->Option Str->Prop)(Q:VK):Addr->Option Addr->Hp->Prop:=λC dx H2=>∃wrd fo,wd C wrd fo/\∃us,(match dx,fo with
 | none,none=>us=[]
 | some D,some f=>∃v,H2 D=some (.xd [(f,v)])/\us=[v]
 | _,_=>False)/\∀(t:Addr) (H':Hp),(∀b o,H2 b=some o->H' b=some o)->H' t=some (.tup ([.str "refused",.str wrd]++us))->Q (.ref t) H'
section
variable {X:Cx}
end
def NT (Ps:List Addr)(H:Hp):Prop:=∀b,H b=none\/(∃o xs,H b=some (.bR o (.lst xs)))\/(b∈Ps/\H b=some (.gq #[]))
section
variable {P:Program}{w:World}{K:Fg}{mg:Str->Option Value}{base:Heap}
end
theorem Be {X:Cx}:Passes (lH X.prog X.w) X E0:=λ_ _ _ _ _ _ _ ⟨_,_,_,_,_,_,_,_,_,_,_,_,_,_,_,_,_,_,_,h⟩=>h.elim
theorem tU:∀{ns:List Int} {ai:List Value},Vals (ns.map V.int) ai->IntsAre ai ns
 | [],_,.nil=>.nil
 | n::r,_,.cons h t=>by obtain⟨tk,rfl⟩:=h;exact .cons n tk (tU t)
theorem map_getD (ns:List Int):(List.range ns.length).map (λi=>ns.getD i 0)=ns:=by
 apply List.ext_getElem
 .simp
 .intro i h1 h2;simp at h1;simp[List.getD_eq_getElem?_getD,h1]
section
variable {X:Cx}
theorem BP:dt X (.builtin "len") (λxs H Q=>∃(a:Addr) (S:Int->Bool) (n:Nat),xs=[V.ref a]/\H a=some (.set S n)/\Q (.int (n:Nat)) H):=by intro pins s σ H xs us Q I r h;obtain⟨a,S,n,rfl,ha,q⟩:=h;obtain⟨u,rfl,ru⟩:=vals1 r;cases ru;obtain⟨o,es,ep,t,e,ex,d,_,_,sb,ft,rfl⟩:=(show s.heap.SetOf (intKind X.prog X.w) a S n from I.aq a _ ha);refine call_len_set e ex d ft (by have:scanBound=4096:=rfl;omega) ?_;exact⟨.int (es.size:Nat),H,I.kept (t':=s.toks+1+1) (λ_ _ z=>z),⟨_,rfl⟩,q⟩
end
section
variable {prog:Program}{w:World}{A:Around}{E:Value->Sh->Prop}{s:Sh}
end
section
variable {X:Cx}
end
end L2
namespace L2
open PySem PySem.Spec PyProof.Rows PySem.AutoSeq1
section
variable {X:Cx}
end
end L2
namespace L2
open PySem PySem.Spec
section
variable {X:Cx}{es:List Expr}{t:TA}{te:TE}
end
end L2
namespace HT
open PySem PySem.Spec PyProof.Rows
section
variable {prog:Program}{w:World}{A:Around}{E:Value->Sh->Prop}{s:Sh}
theorem m9 {t sl:Addr}{items:Array Value}{vl vu:Value}{lo hi:Option Int}{Q:Value->Sh->Prop}(ht:IsTup s.heap t items)(hs:s.heap.IsSliceOf sl vl vu .none)(pl:IsPart vl lo)(pu:IsPart vu hi)
 (hw:a9 items.size 0 lo=0/\a9 items.size items.size hi=items.size)
 (h:Q (.ref t) s):wpAny (model prog w) A (getItem (.ref t) (.ref sl)) Q E s:=by
 obtain⟨os,sL,hcs,xZ⟩:=id hs;have hTs:s.TypeIs (.ref sl) "slice":=⟨os,sL,hcs⟩;unfold getItem
 try with_reducible refine wpAny_holding ?_
 first | refine wpAny_bind (wpAny_pure ?_) | skip
 refine wpAny_bind (wpAny_sequenceKey ht.typeIs (by decide) ?_);refine wpAny_bind (wpAny_callSpecial?_slot (name:=Str.ofString "__getitem__") ht.typeIs PyProof.Rows.slot_tuple_getitem
  (wpAny_call_entry PyProof.Rows.slot_tuple_getitem ht.typeIs entry_tuple_getitem ?_ (args_tuple_getitem _ _)))
 show wpAny _ _ (Builtin.Tuple.tupleItemsOf (.ref t) >>= _) _ _ s;refine wpAny_bind (tupleItemsOf_ ht ?_);refine wpAny_bind (wpAny_typeOf hTs ?_);rw[if_pos (by decide)];refine wpAny_bind (j6 hs pl pu ?_);have hyes:(((a9 items.size 0 lo:Nat):Int)==0&&(1:Int)==1&&(a9 items.size items.size hi-a9 items.size 0 lo)==items.size)=true:=by rw[hw.1,hw.2];simp
 show wpAny _ _ (if (((a9 items.size 0 lo:Nat):Int)==0&&(1:Int)==1&&(a9 items.size items.size hi-a9 items.size 0 lo)==items.size)=true then _ else _) _ _ s;rw[if_pos hyes];unfold Builtin.Tuple.tupleIsExact;refine wpAny_bind (wpAny_bind (wpAny_typeOf ht.typeIs (wpAny_pure ?_)));rw[if_pos (by decide)];refine wpAny_bind (wpAny_rule ?_);exact wpAny_pure ⟨_,rfl,wpAny_pure h⟩
end
end HT
namespace L2
open PySem PySem.Spec PyProof.Rows
section
variable {X:Cx}
theorem Ik:uq X (λx lo hi H Q=>∃a xs,x = .ref a/\cy X.K H a xs/\((HT.a9 xs.length 0 lo=0/\HT.a9 xs.length xs.length hi=xs.length)->Q (.ref a) H) /\
 (¬(HT.a9 xs.length 0 lo=0/\HT.a9 xs.length xs.length hi=xs.length)->∀p,H p=none->Q (.ref p) (upd H p (.tup (mB xs lo hi))))):=by
 intro pins s σ H x v vl vu lo hi sl Q I rx hs pl pu h;obtain⟨a,xs,rfl,hx,q1,q2⟩:=h
 by_cases hw:HT.a9 xs.length 0 lo=0/\HT.a9 xs.length xs.length hi=xs.length
 .cases rx;obtain⟨ai,r,ht,hz⟩:=I.tuple hx;have hlen:ai.toArray.size=xs.length:=by rw[List.size_toArray];exact r.length.symm
  exact⟨"tuple",_,PyProof.Rows.slot_tuple_getitem.lookup,ht.typeIs,HT.m9 ht hs pl pu (by rw[hlen];exact hw) ⟨.ref a,H,I,rfl,q1 hw⟩⟩
 .exact MQ pins s σ H _ v vl vu lo hi sl Q I rx hs pl pu ⟨a,xs,rfl,hx,hw,q2 hw⟩
end
section
variable {X:Cx}{CX:kL}{k:Nat}{f C:Addr}{fd:FuncData}{ps ks:List Str}{sp:Sp}{E:XK}{x:Str}{p pos:Pos}{e:Expr}{es:List Expr}{kws:List Keyword}{t tk:TA}{g:List Value->List Value->List Value}{gV:List V->List V->List V}
def LY (C:Addr)(sp:Sp)(gV:List V->List V->List V)(E:XK)(t tk:TA):TE:=λσ H Q=>t σ H λvs H1=>tk σ H1 λzs H2=>∀x dx,H2 x=none->H2 dx=none->dx≠x->sp (gV (.ref x::vs) zs) (upd (upd H2 dx (.own x)) x (.ins C dx [])) (λv H3=>v = .aj/\Q (.ref x) H3) E
theorem CA {pins:List (Addr×Obj)}{σ:St}{H:Hp}{s:Sh}{Q:VK}{us ws:List Value}{vs zs:List V}(M:Mk X.K C f)(F:dE X.prog X.w X.K X.mg X.base CX k f fd ps sp)(hr:cO (k+1) X.A)(hb:wc X.K fd ps ks g gV)
 (hx:Passes CX X E) (I:Inv X pins σ H s) (r:Vals vs us) (rz:Vals zs ws)
 (h:∀x dx,H x=none->H dx=none->dx≠x->sp (gV (.ref x::vs) zs) (upd (upd H dx (.own x)) x (.ins C dx [])) (λv H2=>v = .aj/\Q (.ref x) H2) E):
 wpAny (model X.prog X.w) X.A (call (.ref C) us (ks.zip ws)) (EP X pins σ Q) X.xe s:=by
 have hq:=h (s.heap.objs.size+1) s.heap.objs.size (I.aq.fresh (Nat.le_succ _)) (I.aq.fresh (Nat.le_refl _)) (Nat.ne_of_lt (Nat.lt_succ_self _));have I2:=Inv.made (C:=C) I;have r2:=hb.rel (vs:=V.ref (s.heap.objs.size+1)::vs) (us:=Value.ref (s.heap.objs.size+1)::us) (.cons rfl r) rz;have hl:(g (Value.ref (s.heap.objs.size+1)::us) ws).length=ps.length:=by rw[<-r2.length];exact F.len _ _ _ _ hq
 refine wpAny_call (vX (f:=f) I.d8 M.makes M.init (beq_iff_eq.mp M.fn) (codeAny_mono (F.run _ X.stack _ _ ⟨Value.ref (s.heap.objs.size+1)::us,ks.zip ws⟩ _ _ _ E (hr.make C us (ks.zip ws)) (I2.jR.make C us (ks.zip ws)) (hb.to _ (Value.ref (s.heap.objs.size+1)::us) ws I2.d8 hl) r2 hq) λr s' gI=>?_));cases r with
 | error e=>exact hx pins σ _ _ e s' I2 gI
 | ok fl=>
  cases fl with
  | ret u=>obtain⟨v,H',I3,rv,ev,q3⟩:=I2.after gI;subst ev;exact⟨rv,⟨V.ref (s.heap.objs.size+1),H',I3,rfl,q3⟩⟩
  | next=>exact False.elim gI
  | brk=>exact False.elim gI
  | cont=>exact False.elim gI
theorem FK (M:Mk X.K C f)(F:dE X.prog X.w X.K X.mg X.base CX k f fd ps sp)(hr:cO (k+1) X.A)(hg:Gl X x)(hm:X.mg x=some (.ref C))(hb:wc X.K fd ps ks g gV)(hx:Passes CX X E)
 (ha:PA X (e::es) t) (hkw:PK X kws tk) (gb:(backToKw pos (keywordEach kws X.env)).all (·.1.isSome)=true) (hks:(backToKw pos (keywordEach kws X.env)).filterMap (·.1)=ks)
 (lR:(x==("__debug__":Str))=false) (he:starEach (e::es) X.env=(false,eval e X.env)::starEach es X.env)
 (jn:((backTo pos (starEach (e::es) X.env)).any (·.1)||(backToKw pos (keywordEach kws X.env)).any (·.1.isNone))=false):
 PE X (.Call (.Name x p) (e::es) kws pos) (LY C sp gV E t tk):=by
 intro pins s σ H Q I h;refine wpAny_Call_Name_kw (jL I hg hm ?_ lR);refine W.callWith_KW (h₀:=X.base) I.ok.mod.jm M.kp gb (aQ (ha pos pins s σ H _ I h) λus s1 ⟨vs,H1,I1,r,q⟩=>?_) jn he;refine aQ (hkw pos pins s1 σ H1 _ I1 q) λws s2 ⟨zs,H2,I2,rz,q2⟩=>⟨I2.d8,?_⟩;rw[hks];exact CA M F hr hb hx I2 r rz q2
def Ol (K:Fg):List V->Hp->VK->Prop:=λxs H Q=>∃(a:Addr) (ns:List Int),xs=[.ref a]/\cm K H a (ns.map V.int)/\ns.length<=1000/\∀(p:Addr) (S:Int->Bool),H p=none->Q (.ref p) (upd H p (.set S (ns.foldl step_dedup []).length))
theorem DI (hc:X.calm=true):dt X (.type "set") (Ol X.K):=by
 intro pins s σ H xs us Q I r h;obtain⟨a,ns,rfl,hq,hl,q⟩:=h;obtain⟨u,rfl,ru⟩:=vals1 r;cases ru;obtain⟨ai,rv,p,hz⟩:=I.list hq;have hi:=tU rv;have el:ai.length=ns.length:=by rw[<-rv.length,List.length_map]
 have es:ai.toArray.size=ns.length:=by rw[List.size_toArray,el]
 have bd:ai.toArray.size+1<scanBound:=by rw[es];exact Nat.lt_of_le_of_lt (Nat.add_le_add_right hl 1) (by decide)
 refine call_set_list (I.ok.hd hc) p.isList (by simpa using hi) bd λh' tk hS hk=>?_;have fm:firstMet (λi=>ns.getD i 0) ai.toArray.size=ns.foldl step_dedup []:=by unfold firstMet;rw[es,map_getD]
 rw[fm] at hS;exact⟨.ref s.heap.objs.size,_,I.laid (h':=h') (t':=tk) (o:=.set _ _) (λb ob z=>hk b ob (Heap.lt_size z) z) (Nat.le_refl _) hS,rfl,q _ _ (I.aq.fresh (Nat.le_refl _))⟩
end
end L2
namespace L2
open PySem PySem.Spec PyProof.Rows PySem.SeqAt
section
variable {K:Fg}{H:Hp}{n:Nat}{a:Addr}{xs:List V}{y:V}
theorem wC (ha:cy K H a xs)(fy:fO y=true):je K H n (.ref a) y false:=by
 intro X pins σ s A u v hK I rx ry hu;subst hK;cases rx;obtain⟨ai,r1,p1,_⟩:=I.tuple ha;have p1:s.heap.IsTuple a ai.toArray:=p1;have hu:A.units<cLine:=by omega
 cases y with
 | aj=>cases ry;exact⟨EqAt.tuple_none p1 hu,RcAt.tuple_none p1 hu,RcNeAt.tuple_none p1 hu⟩
 | bl b=>cases ry;exact⟨EqAt.tuple_bool b p1 hu,RcAt.tuple_bool b p1 hu,RcNeAt.tuple_bool b p1 hu⟩
 | int b=>obtain⟨t,rfl⟩:=ry;exact⟨EqAt.tuple_int b t p1 hu,RcAt.tuple_int b t p1 hu,RcNeAt.tuple_int b t p1 hu⟩
 | str b=>obtain⟨t,rfl⟩:=ry;exact⟨EqAt.tuple_str b t p1 hu,RcAt.tuple_str b t p1 hu,RcNeAt.tuple_str b t p1 hu⟩
 | _=>cases fy
theorem wG (ha:cy K H a xs)(fy:fO y=true):je K H n y (.ref a) false:=by
 intro X pins σ s A u v hK I rx ry hu;subst hK;cases ry;obtain⟨ai,r1,p1,_⟩:=I.tuple ha;have p1:s.heap.IsTuple a ai.toArray:=p1;have hu:A.units<cLine:=by omega
 cases y with
 | aj=>cases rx;exact⟨EqAt.none_tuple p1 hu,RcAt.none_tuple p1 hu,RcNeAt.none_tuple p1 hu⟩
 | bl b=>cases rx;exact⟨EqAt.bool_tuple b p1 hu,RcAt.bool_tuple b p1 hu,RcNeAt.bool_tuple b p1 hu⟩
 | int b=>obtain⟨t,rfl⟩:=rx;exact⟨EqAt.int_tuple b t p1 hu,RcAt.int_tuple b t p1 hu,RcNeAt.int_tuple b t p1 hu⟩
 | str b=>obtain⟨t,rfl⟩:=rx;exact⟨EqAt.str_tuple b t p1 hu,RcAt.str_tuple b t p1 hu,RcNeAt.str_tuple b t p1 hu⟩
 | _=>cases fy
def vU (u:Value):Option V:=match u with
 | .none=>some .aj
 | .bool b=>some (.bl b)
 | .int i _=>some (.int i)
 | .str z _=>some (.str z)
 | .bytes b _=>some (.p9 b)
 | .float b _=>some (.sH b)
 | .ref a=>some (.ref a)
 | .type n=>some (.ty n)
 | _=>none
theorem Ou {z:V}{u:Value}(r:RelV z u):vU u=some z:=by
 cases z with
 | aj=>cases r;rfl
 | bl b=>cases r;rfl
 | int i=>obtain⟨t,rfl⟩:=r;rfl
 | str i=>obtain⟨t,rfl⟩:=r;rfl
 | p9 i=>obtain⟨t,rfl⟩:=r;rfl
 | sH i=>obtain⟨t,rfl⟩:=r;rfl
 | ref a=>cases r;rfl
 | ty n=>cases r;rfl
def gU (g:V->Bool)(u:Value):Bool:=((vU u).map g).getD false
theorem GO {g:V->Bool}{z:V}{u:Value}(r:RelV z u):gU g u=g z:=by unfold gU;rw[Ou r];rfl
theorem nF {g:V->Bool}:∀{xs:List V} {us:List Value},Vals xs us->us.any (gU g)=xs.any g
 | _,_,.nil=>rfl
 | y::xs,u::us,.cons r t=>by rw[List.any_cons,List.any_cons,GO r,nF t]
def Ey (K:Fg)(n:Nat)(neg:Bool):R2:=λx y H Q=>∃p xs,∃g:V->Bool,y = .ref p/\(cm K H p xs\/cy K H p xs)/\(∀z∈xs,je K H n z x (g z))/\Q (.bl (if neg then !xs.any g else xs.any g)) H
theorem ou {X:Cx}{pins:List (Addr×Obj)}{σ:St}{s:Sh}{A:Around}{g:V->Bool}{x:V}{v:Value}(I:Inv X pins σ H s)(rx:RelV x v)(hu:A.units+n<cLine):∀{xs:List V} {us:List Value},Vals xs us->(∀z∈xs,je X.K H n z x (g z))->∀u∈us,SeqAt.EqAt A s u v (gU g u)
 | _,_,.nil,_=>λu hu=>by cases hu
 | y::xs,u::us,.cons r t,f=>λu' hu'=>by
  rcases List.mem_cons.mp hu' with rfl | hu'
  .rw[GO r];exact(f y (List.mem_cons_self ..) X pins σ s A _ _ rfl I r rx hu).1
  .exact ou I rx hu t (λz hz=>f z (List.mem_cons_of_mem _ hz)) u' hu'
variable {X:Cx}
theorem Md (hu:X.A.units+1+n<cLine):bS X (compareOp .In) (Ey X.K n false):=by
 intro pins s σ H x y v u Q I rx ry h;obtain⟨p,xs,g,rfl,hq,fs,q⟩:=h;cases ry;rcases hq with hq | hq
 .obtain⟨ai,r,pl,hz⟩:=I.list hq;refine SeqAt.in_listAt (gU g) pl.isList (λw hw=>ou (A:=X.A.in1) I rx (by rw[in1_units];exact hu) r fs w (by simpa using hw)) ⟨.bl _,H,I,rfl,?_⟩;rw[show ai.toArray.any (gU g)=ai.any (gU g) by simp,nF r];exact q
 .obtain⟨ai,r,pl,hz⟩:=I.tuple hq;refine SeqAt.in_tupleAt (gU g) pl (λw hw=>ou (A:=X.A.in1) I rx (by rw[in1_units];exact hu) r fs w (by simpa using hw)) ⟨.bl _,H,I,rfl,?_⟩;rw[show ai.toArray.any (gU g)=ai.any (gU g) by simp,nF r];exact q
theorem Dz (hu:X.A.units+1+n<cLine):bS X (compareOp .NotIn) (Ey X.K n true):=by
 intro pins s σ H x y v u Q I rx ry h;obtain⟨p,xs,g,rfl,hq,fs,q⟩:=h;cases ry;rcases hq with hq | hq
 .obtain⟨ai,r,pl,hz⟩:=I.list hq;refine SeqAt.notIn_listAt (gU g) pl.isList (λw hw=>ou (A:=X.A.in1) I rx (by rw[in1_units];exact hu) r fs w (by simpa using hw)) ⟨.bl _,H,I,rfl,?_⟩;rw[show ai.toArray.any (gU g)=ai.any (gU g) by simp,nF r];exact q
 .obtain⟨ai,r,pl,hz⟩:=I.tuple hq;refine SeqAt.notIn_tupleAt (gU g) pl (λw hw=>ou (A:=X.A.in1) I rx (by rw[in1_units];exact hu) r fs w (by simpa using hw)) ⟨.bl _,H,I,rfl,?_⟩;rw[show ai.toArray.any (gU g)=ai.any (gU g) by simp,nF r];exact q
end
section
variable {P:Program}{w:World}
abbrev bj:=List Key×Int
def bW (P:Program)(w:World)(h:Heap)(k:bj)(a:Addr):Prop:=
 ∃(o:Obj) (items:Array Value) (n:Nat) (b:Addr) (t:Tok),h.get? a=some o/\o.cls = .type "tuple"/\o.data = .seq items n/\items = #[.ref b,.int k.2 t]/\IsTupleKey (aV P w) h k.1 b
def dw (P:Program)(w:World)(k:bj):Int:=reduceHash (Builtin.Tuple.tupleHashOf [tupleKeyHash (aV P w) k.1,(aV P w).hash (.inl k.2)])
theorem AR {M:Model}{A:Around}{E:Value->Sh->Prop}{s:Sh}{i:Int}{Q:Int->Sh->Prop}(q:Q (reduceHash i) s):wpAny M A (pyHashByItsType.reduced i) Q E s:=by
 unfold pyHashByItsType.reduced;unfold reduceHash at q;split
 .rename_i h;rw[if_pos h] at q;exact wpAny_pure q
 .rename_i h;rw[if_neg h] at q;exact wpAny_bind (wpAny_rule (wpAny_pure q))
theorem Ih (P:Program)(w:World)(i:Int)(t:Tok):(aV P w).is (.inl i) (.int i t)=true:=by
 first | exact decide_eq_true rfl | simp[aV] | rfl
theorem xv {A:Around}{E:Value->Sh->Prop}{s:Sh}{k:bj}{a:Addr}{Q:Int->Sh->Prop}(hr:A.units+1<cLine)(hk:bW P w s.heap k a)
 (q:Q (dw P w k) { s with toks:=s.toks+(k.1.length+3) }):wpAny (model P w) A (pyHash (.ref a)) Q E s:=by
 obtain⟨o,items,n,b,t,g,hc,hd,rfl,kb⟩:=hk;have ty:s.TypeIs (.ref a) "tuple":=⟨o,g,hc⟩;show wpAny _ _ (pyHashByItsType (.ref a)) _ _ _;unfold pyHashByItsType;refine wpAny_bind (wpAny_cRoomFor_or (.inr (by omega)) ?_);refine wpAny_bind (wpAny_specialOf ty F.slot_tuple_hash.lookup ?_);rw[beq_builtin_none];refine wpAny_bind (wpAny_specialOf ty F.slot_tuple_hash.lookup ?_);refine wpAny_bind (wpAny_callSpecialIfBoundUnlessNone?_slot ty F.slot_tuple_hash ?_);refine wpAny_call_entry F.slot_tuple_hash ty F.entry_tuple_hash ?_;show wpAny _ _ (Builtin.«tuple.__hash__» { pos:=[.ref a] }) _ _ _;unfold Builtin.«tuple.__hash__»;refine wpAny_bind (Q:=_) ?_;show wpAny _ _ (pure (Value.ref a,[])) _ _ _;refine wpAny_pure ?_;show wpAny _ _ (Builtin.Tuple.tupleItemsOf (.ref a) >>= _) _ _ _;refine wpAny_bind (wpAny_tupleItemsOf g hd ?_);rw[<-Array.forIn_toList];show wpAny _ _ (forIn [Value.ref b,Value.int k.2 t] #[] _ >>= _) _ _ _;simp only[List.forIn_cons,List.forIn_nil,bind_assoc,pure_bind];refine wpAny_bind (wpAny_pyHash_tuple (by rw[in1_units];exact hr) kb ?_);refine wpAny_bind ((aV P w).pyHash (Ih P w k.2 t) ?_);refine wpAny_ret_mkInt ?_;refine AR ?_;exact q
theorem bW.typeIs {s:Sh}{k:bj}{a:Addr}(h:bW P w s.heap k a):s.TypeIs (.ref a) "tuple":=by obtain⟨o,items,n,b,t,g,hc,hd,rfl,kb⟩:=h;exact⟨o,g,hc⟩
theorem bW.inj {h:Heap}{a:Addr}{x y:bj}(hx:bW P w h x a)(hy:bW P w h y a):x=y:=by obtain⟨o,items,n,b,t,g,hc,hd,rfl,kb⟩:=hx;obtain⟨o',items',n',b',t',g',qd,iD,rfl,kb'⟩:=hy;rw[g] at g';cases g';rw[hd] at iD;simp only[Data.seq.injEq,Array.mk.injEq,List.cons.injEq,Value.ref.injEq,Value.int.injEq,and_true] at iD;obtain⟨⟨rfl,e,_⟩,_⟩:=iD;exact Prod.ext (IsTupleKey.inj kb kb') e
theorem bW.keeps {h h':Heap}{k:bj}{a d:Addr}{o:Obj}{es:Array DictEntry}{ep:Nat}(hk:bW P w h k a)(hd:h.get? d=some o)(he:o.data = .dict es ep)(hs:Heap.SameBut d h h'):bW P w h' k a:=by
 obtain⟨ob,items,n,b,t,g,hc,fg,hi,kb⟩:=hk;have eJ:a≠d:=by intro e;subst e;rw[g] at hd;cases hd;rw[fg] at he;cases he
 exact⟨ob,items,n,b,t,by rw[<-g];exact hs.2 _ eJ,hc,fg,hi,IsTupleKey.keeps kb hd he hs⟩
theorem zQ {α:Type}[DecidableEq α](a b:α):(a==b)=decide (a=b):=by
 by_cases h:a=b
 .subst h;simp
 .rw[decide_eq_false h];exact beq_eq_false_iff_ne.mpr h
theorem zE {k:Key}{v:Value}(h:(aV P w).is k v=true):RelV (kV k) v:=by
 rcases cW h with⟨i,t,rfl,rfl⟩|⟨x,t,rfl,rfl⟩
 .exact⟨t,rfl⟩
 .exact⟨t,rfl⟩
theorem EF {A:Around}{s:Sh}{k l:Key}{u v:Value}(h:(aV P w).is k u=true)(h':(aV P w).is l v=true):EqAt A s u v (decide (k=l)):=by
 have e:kJ (kV k) (kV l)=decide (k=l):=by cases k<;>cases l<;>simp[kV,kJ,zQ]
 rw[<-e];exact vL (zE h) (zE h') (by cases k<;>rfl) (by cases l<;>rfl)
theorem qI {ks:List Key}{vs:List Value}(h:ItemsAre (aV P w) ks vs){j:Nat}{v:Value}(e:vs[j]?=some v):∃k,ks[j]?=some k/\(aV P w).is k v=true:=by
 induction h generalizing j with
 | nil=>simp at e
 | cons hk _ ih=>
  cases j with
  | zero=>simp at e;subst e;exact⟨_,rfl,hk⟩
  | succ j=>exact ih (by simpa using e)
theorem uv {ks:List Key}{vs:List Value}(h:ItemsAre (aV P w) ks vs):ks.length=vs.length:=by
 induction h with
 | nil=>rfl
 | cons _ _ ih=>simp[ih]
theorem all_keys (xs ys:List Key):((List.range (min xs.length ys.length)).all (λj=>decide (xs[j]?=ys[j]?))&&xs.length==ys.length)=decide (xs=ys):=by
 rw[Bool.eq_iff_iff];simp only[Bool.and_eq_true,List.all_eq_true,List.mem_range,decide_eq_true_eq,beq_iff_eq];constructor
 .rintro⟨h1,h2⟩;refine List.ext_getElem? λi=>?_
  by_cases hi:i<xs.length
  .exact h1 i (by omega)
  .rw[List.getElem?_eq_none (by omega),List.getElem?_eq_none (by omega)]
 .rintro rfl;exact⟨λ_ _=>rfl,rfl⟩
theorem Gf {A:Around}{s:Sh}{x y:List Key}{a b:Addr}(hr:A.units<cLine)(hx:IsTupleKey (aV P w) s.heap x a)(hy:IsTupleKey (aV P w) s.heap y b):EqAt A s (.ref a) (.ref b) (decide (x=y)):=by
 by_cases qe:a=b
 .subst qe;rw[IsTupleKey.inj hx hy,decide_eq_true rfl];exact EqAt.same _
 .obtain⟨o,ai,n,g,hc,hd,hi⟩:=hx;obtain⟨o',its',n',g',qd,iD,mZ⟩:=hy;have l1:=uv hi;have l2:=uv mZ;have l1:x.length=ai.size:=l1.trans Array.length_toList;have l2:y.length=its'.size:=l2.trans Array.length_toList;have:=RcAt.tuples (A:=A) (e:=λj=>decide (x[j]?=y[j]?)) ⟨o,g,hc,n,hd⟩ ⟨o',g',qd,n',iD⟩ hr λj h1 h2=>by obtain⟨k,e1,k1⟩:=qI hi (j:=j) (v:=ai[j]) (by simp[h1]);obtain⟨l,e2,k2⟩:=qI mZ (j:=j) (v:=its'[j]) (by simp[h2]);rw[e1,e2];have:=EF (A:=A.in1) (s:=s) k1 k2;simpa using this
  rw[<-l1,<-l2,all_keys] at this;exact .of_refs qe this
theorem Bq {A:Around}{E:Value->Sh->Prop}{s:Sh}{x y:bj}{a b:Addr}{Q:Bool->Sh->Prop}(hr:A.units+1<cLine)(hx:bW P w s.heap x a)(hy:bW P w s.heap y b)
 (q:Q (decide (x=y)) s):wpAny (model P w) A (eqBool (.ref a) (.ref b)) Q E s:=by
 have:EqAt A s (.ref a) (.ref b) (decide (x=y)):=by
  by_cases qe:a=b
  .subst qe;rw[bW.inj hx hy,decide_eq_true rfl];exact EqAt.same _
  .obtain⟨o,ai,n,c,t,g,hc,hd,rfl,kb⟩:=hx;obtain⟨o',its',n',c',t',g',qd,iD,rfl,kb'⟩:=hy;have:=RcAt.tuples (A:=A) (e:=λj=>if j=0 then decide (x.1=y.1) else decide (x.2=y.2)) ⟨o,g,hc,n,hd⟩ ⟨o',g',qd,n',iD⟩ (by omega) λj h1 h2=>by
    match j,h1,h2 with
    | 0,_,_=>exact Gf (by rw[in1_units];exact hr) kb kb'
    | 1,_,_=>have:=EqAt.int_int (A:=A.in1) (s:=s) x.2 t y.2 t';rw[zQ] at this;exact this
   have e:(List.range (min (#[Value.ref c,Value.int x.2 t].size) (#[Value.ref c',Value.int y.2 t'].size))).all (λj=>if j=0 then decide (x.1=y.1) else decide (x.2=y.2))=decide (x=y):=by obtain⟨x1,x2⟩:=x;obtain⟨y1,y2⟩:=y;rw[Bool.eq_iff_iff];simp[List.range,List.range.loop]
   rw[e] at this;simpa using EqAt.of_refs qe this
 exact this _ _ _ _ q
theorem wY {A:Around}{E:Value->Sh->Prop}{s:Sh}{ks:List Key}{a:Addr}{Q:Bool->Sh->Prop}(n:Nat)(hk:IsTupleKey (aV P w) s.heap ks a)(q:Q true s):wpAny (model P w) A (eqIsQuiet (n+1) (.ref a)) Q E s:=by
 have ty:=IsTupleKey.typeIs hk;obtain⟨o,ai,m,g,hc,hd,hi⟩:=hk;unfold eqIsQuiet;refine wpAny_bind (wpAny_specialOf ty F.slot_tuple_eq.lookup ?_);refine wpAny_bind (wpAny_isInstance ty isSubtype_tuple_tuple ?_);refine wpAny_bind (wpAny_seqItems g hd ?_);refine wpAny_bind ?_;show wpAny _ _ (forIn ai (none,()) _) _ _ _;rw[<-Array.forIn_toList];refine wpAny_forIn_list _ (λl b s'=>(∀v∈l,carriedByValue v=true)/\b=(none,())/\s'=s) _ ?_ ?_ _ _ ⟨?_,rfl,rfl⟩
 .rintro x rest b s' ⟨h1,rfl,rfl⟩;rw[eqIsQuiet_byValue _ (h1 x (List.mem_cons_self ..))];refine wpAny_bind (wpAny_pure (wpAny_pure ?_));exact⟨λv hv=>h1 v (List.mem_cons_of_mem _ hv),rfl,rfl⟩
 .rintro b s' ⟨_,rfl,rfl⟩;exact wpAny_pure q
 .intro v hv;obtain⟨j,hj⟩:=List.getElem?_of_mem hv;obtain⟨k,_,hk⟩:=qI hi hj;exact(aV P w).byValue k v hk
theorem vh {A:Around}{E:Value->Sh->Prop}{s:Sh}{k:bj}{a:Addr}{Q:Bool->Sh->Prop}(hk:bW P w s.heap k a)(q:Q true s):wpAny (model P w) A (eqIsQuiet 8 (.ref a)) Q E s:=by have ty:=hk.typeIs;obtain⟨o,items,n,b,t,g,hc,hd,rfl,kb⟩:=hk;unfold eqIsQuiet;refine wpAny_bind (wpAny_specialOf ty F.slot_tuple_eq.lookup ?_);refine wpAny_bind (wpAny_isInstance ty isSubtype_tuple_tuple ?_);refine wpAny_bind (wpAny_seqItems g hd ?_);refine wpAny_bind ?_;show wpAny _ _ (forIn #[Value.ref b,Value.int k.2 t] (none,()) _) _ _ _;rw[<-Array.forIn_toList];show wpAny _ _ (forIn [Value.ref b,Value.int k.2 t] (none,()) _) _ _ _;simp only[List.forIn_cons,List.forIn_nil];refine wpAny_bind (wpAny_bind (wY 6 kb ?_));refine wpAny_pure ?_;rw[eqIsQuiet_byValue _ (show carriedByValue (Value.int k.2 t)=true from rfl)];refine wpAny_bind (wpAny_bind (wpAny_pure (wpAny_pure (wpAny_pure (wpAny_pure q)))))
def fQ (P:Program)(w:World):HeapKind P w bj where
 is:=bW P w
 hash:=dw P w
 draws:=λk=>k.1.length+3
 room:=λA=>A.units+1<cLine
 inj:=bW.inj
 keeps:=bW.keeps
 pyHash:=xv
 eqBool:=Bq
 quiet:=vh
end
abbrev PD (hs:bj->Int)(a:Addr)(xs:List (bj×Addr×Value)):HO:=.ext λh=>(a==sysModules)=false/\xs.length<=sizeLine/\(xs.map (·.1)).Nodup /\
 ∃o es ep,h.get? a=some o/\o.ExactDict/\o.data = .dict es ep/\es.toList=xs.map λx=>(⟨hs x.1,.ref x.2.1,x.2.2⟩:DictEntry)
theorem IH (hs:bj->Int)(a:Addr)(xs:List (bj×Addr×Value))(q:Str)(c:Addr):PD hs a xs≠AO q c:=by
 intro e;have e:=HO.ext.inj e
 let ob:Obj:={ cls:=.type "code",data:=.fields #[.none,.str q 0] }
 let h:Heap:={ objs:=Array.replicate (c+1) ob }
 have g:∀b o,h.get? b=some o->o=ob:=by
  intro b o hb;unfold Heap.get? at hb;have:h.objs[b]?=if b<c+1 then some ob else none:=Array.getElem?_replicate;rw[this] at hb
  by_cases z:b<c+1
  .rw[if_pos z] at hb;exact(Option.some.inj hb).symm
  .rw[if_neg z] at hb;cases hb
 have gc:h.get? c=some ob:=by unfold Heap.get?;have:h.objs[c]?=if c<c+1 then some ob else none:=Array.getElem?_replicate;rw[this,if_pos (Nat.lt_succ_self c)]
 have:h.CodeRec (.ref c) q:=⟨c,ob,_,0,rfl,gc,rfl,rfl⟩;rw[<-congrFun e h] at this;obtain⟨_,_,_,o,es,ep,g1,g2,g3,_⟩:=this;rw[g a o g1] at g3;cases g3
def fv (H:Hp)(k:bj)(b:Addr):Prop:=∃c,H b=some (.tup [.ref c,.int k.2])/\H c=some (.tup (k.1.map kV))
abbrev KP (H:Hp):List (bj×V)->List (bj×Addr×Value)->Prop:=Paired λp q=>p.1=q.1/\fv H p.1 q.2.1/\RelV p.2 q.2.2
theorem KP.val {H:Hp}{af:List (bj×V)}{xs:List (bj×Addr×Value)}(r:KP H af xs)(k:bj):fK (cV af k) ((atKey xs k).map (·.2)):=by
 induction r with
 | nil=>exact True.intro
 | @cons p q ps qs h t ih=>
  obtain⟨h1,_,h2⟩:=h
  by_cases e:p.1=k
  .have e':q.1=k:=h1.symm.trans e;have b:atKey (q::qs) k=some q.2:=by simp[atKey,List.find?_cons,e']
   rw[ka e,b];exact h2
  .have e':¬q.1=k:=λz=>e (h1.trans z);have b:atKey (q::qs) k=atKey qs k:=by simp[atKey,List.find?_cons,e']
   rw[kg e,b];exact ih
theorem KP.w5 {H:Hp}{af:List (bj×V)}{xs:List (bj×Addr×Value)}(r:KP H af xs)(k:bj){y:V}{u:Value}(ry:RelV y u):
 KP H (af.map λkv=>if kv.1=k then (kv.1,y) else kv) (xs.map (putAt k u)):=by
 induction r with
 | nil=>exact .nil
 | @cons p q ps qs h t ih=>
  rw[List.map_cons,List.map_cons];refine .cons ?_ ih;obtain⟨h1,h2,h3⟩:=h;unfold putAt
  by_cases e:p.1=k
  .rw[if_pos e,if_pos (h1.symm.trans e)];exact⟨h1,h2,ry⟩
  .rw[if_neg e,if_neg (λz=>e (h1.trans z))];exact⟨h1,h2,h3⟩
theorem KP.put {H:Hp}{af:List (bj×V)}{xs:List (bj×Addr×Value)}(r:KP H af xs)(k:bj){b:Addr}{y:V}{u:Value}(hb:fv H k b)(ry:RelV y u):
 KP H (putK af k y) (storedH xs k b u):=by
 have e:(af.any λkv=>decide (kv.1=k))=(atKey xs k).isSome:=by rw[qo,(r.val k).fX,Option.isSome_map]
 unfold putK storedH;rw[e]
 by_cases q:(atKey xs k).isSome=true
 .rw[if_pos q,if_pos q];exact r.w5 k ry
 .rw[if_neg q,if_neg q];exact Paired.snoc r ⟨rfl,hb,ry⟩
theorem fv.keeps {H H':Hp}{k:bj}{b:Addr}(h:fv H k b)(ht:∀b ys,H b=some (.tup ys)->H' b=some (.tup ys)):fv H' k b:=by obtain⟨c,h1,h2⟩:=h;exact⟨c,ht _ _ h1,ht _ _ h2⟩
theorem KP.keeps {H H':Hp}{af:List (bj×V)}{xs:List (bj×Addr×Value)}(r:KP H af xs)(ht:∀b ys,H b=some (.tup ys)->H' b=some (.tup ys)):KP H' af xs:=
 Paired.nN r λ_ _ z=>⟨z.1,z.2.1.keeps ht,z.2.2⟩
section
variable {P:Program}{w:World}{H:Hp}{h:Heap}{a:Addr}
theorem sR {k:bj}{b:Addr}(ok:aT P w H h)(e:fv H k b):(fQ P w).is h k b:=by
 obtain⟨c,h1,h2⟩:=e;obtain⟨_,ai,r,o,g1,g2,n,g3⟩:=(show aX P w H h b (.tup [.ref c,.int k.2]) from ok b _ h1);cases r with
 | cons r1 t1=>
  cases t1 with
  | cons r2 t2=>cases t2;cases r1;obtain⟨t,rfl⟩:=r2;exact⟨o,_,n,c,t,g1,g2,g3,rfl,iZ ok h2⟩
theorem Ho {xs:List (bj×Addr×Value)}{af:List (bj×V)}(ok:aT P w H h)(e:H a=some (PD (dw P w) a xs))(r:KP H af xs):(a==sysModules)=false/\xs.length<=sizeLine/\h.DictOfH (fQ P w) a xs:=by
 obtain⟨⟨h1,h2,h3,o,es,ep,g1,g2,g3,g4⟩,_⟩:=(show aX P w H h a (PD (dw P w) a xs) from ok a _ e);refine⟨h1,h2,o,es,ep,g1,g2,g3,g4,λx hx=>?_,h3⟩;have all:∀{l:List (bj×V)} {m:List (bj×Addr×Value)},KP H l m->∀x∈m,(fQ P w).is h x.1 x.2.1:=by
  intro l m q
  induction q with
  | nil=>intro x hx;exact nomatch hx
  | @cons p q ps qs hq t ih=>
   intro x hx;rcases List.mem_cons.mp hx with e | hx
   .subst e;exact sR ok (by rw[<-hq.1];exact hq.2.1)
   .exact ih x hx
 exact all r x hx
theorem Oq {xs:List (bj×Addr×Value)}{H':Hp}(hz:xs.length<=sizeLine)(hd:(a==sysModules)=false)(dd:h.DictOfH (fQ P w) a xs):aX P w H' h a (PD (dw P w) a xs):=by obtain⟨o,es,ep,g1,g2,g3,g4,_,g5⟩:=dd;refine⟨⟨hd,hz,g5,o,es,ep,g1,g2,g3,g4⟩,⟨o,g1⟩,?_⟩;rintro h1 h2 ⟨q1,q2,q3,o,es,ep,k1,k2,k3,k4⟩ k;exact⟨q1,q2,q3,o,es,ep,k o k1,k2,k3,k4⟩
end
section
variable {X:Cx}{pins:List (Addr×Obj)}{σ:St}{H:Hp}{s:Sh}{a b:Addr}{A:Around}{E:Value->Sh->Prop}{xs:List (bj×Addr×Value)}{af:List (bj×V)}{k:bj}
theorem rM (I:Inv X pins σ H s)(e:H a=some (.dK [])\/H a=some (.dT [])):(a==sysModules)=false/\s.heap.DictOfH (fQ X.prog X.w) a []:=by
 rcases e with e | e
 .obtain⟨z,y,vs,r,o,es,ep,g,ex,d,kf,ps,nd⟩:=I.aq a _ e;have hv:vs=[]:=by cases r;rfl
  subst hv;have he:es.toList=[]:=by
   revert ps
   generalize es.toList=l;intro ps;cases ps;rfl
  exact⟨y,o,es,ep,g,ex,d,he,⟨λx hx=>absurd hx (List.not_mem_nil),List.nodup_nil⟩⟩
 .obtain⟨z,y,xs,r,o,es,ep,g,ex,d,he,nd⟩:=I.aq a _ e;have hv:xs=[]:=by cases r;rfl
  subst hv;exact⟨y,o,es,ep,g,ex,d,he,⟨λx hx=>absurd hx (List.not_mem_nil),List.nodup_nil⟩⟩
theorem CZ {o:Option V}{Q:Value->Sh->Prop}(hu:A.units+2<cLine)(I:Inv X pins σ H s)(hd:(a==sysModules)=false)(dd:s.heap.DictOfH (fQ X.prog X.w) a xs)(eb:fv H k b)(l:fK o ((atKey xs k).map (·.2)))
 (h:∀w' s',Inv X pins σ H s'->RelV (o.getD .aj) w'->Q w' s'):wpAny (model X.prog X.w) A (call (.builtin "dict.get") [.ref a,.ref b]) Q E s:=by
 refine call_meetsIn PySem.F.slot_dict_get dd.typeIs PySem.F.entry_dict_get (PySem.F.args_dict_get_2 _ _) (meetsH_dict_get (fQ X.prog X.w) a b hd) ⟨by show A.in1.units+1<cLine;rw[in1_units];omega,k,xs,sR I.aq eb,dd,?_⟩;refine h _ _ (I.tok _) ?_;cases o with
 | none=>
  cases q:(atKey xs k).map (·.2) with
  | none=>exact rfl
  | some v=>rw[q] at l;exact l.elim
 | some v=>
  cases q:(atKey xs k).map (·.2) with
  | none=>rw[q] at l;exact l.elim
  | some u=>rw[q] at l;exact l
theorem CH {y:V}{r:Value}{Q:Unit->Sh->Prop}(hu:A.units+2<cLine)(I:Inv X pins σ H s)(mu:yU (H a))(ht:∀ys,H a≠some (.tup ys))(hd:(a==sysModules)=false)(dd:s.heap.DictOfH (fQ X.prog X.w) a xs)(hz:xs.length<sizeLine)(eb:fv H k b)(rv:RelV y r)
 (h:∀s',Inv X pins σ (upd H a (PD (dw X.prog X.w) a (storedH xs k b r))) s'->Q () s'):wpAny (model X.prog X.w) A (setItem (.ref a) (.ref b) r) Q E s:=by
 refine wpAny_setItem_heap (hsz:=by omega) (by show A.in1.units+1<cLine;rw[in1_units];omega) (sR I.aq eb) dd λh' mW hs=>h _ ?_;have hl:(storedH xs k b r).length<=sizeLine:=by
  unfold storedH;split
  .rw[List.length_map];omega
  .rw[List.length_append,List.length_singleton];omega
 exact lL I mu hs (let ⟨q,_,_,hq,_⟩:=mW;⟨q,hq⟩) (Oq hl hd mW)
end
end L2
namespace RF
open PySem
inductive D where
 | aj | bl (b:Bool) | int (i:Int) | str (x:Str) | tup (xs:List D) | ref (n:Nat)
mutual
noncomputable def D.dec:(a b:D)->Decidable (a=b)
 | .aj,.aj=>.isTrue rfl
 | .bl a,.bl b=>if h:a=b then .isTrue (h ▸ rfl) else .isFalse λe=>h (by cases e;rfl)
 | .int a,.int b=>if h:a=b then .isTrue (h ▸ rfl) else .isFalse λe=>h (by cases e;rfl)
 | .str a,.str b=>if h:a=b then .isTrue (h ▸ rfl) else .isFalse λe=>h (by cases e;rfl)
 | .tup a,.tup b=>match D.Kr a b with
  | .isTrue h=>.isTrue (h ▸ rfl)
  | .isFalse h=>.isFalse λe=>h (by cases e;rfl)
 | .ref a,.ref b=>if h:a=b then .isTrue (h ▸ rfl) else .isFalse λe=>h (by cases e;rfl)
 | .aj,.bl _ | .aj,.int _ | .aj,.str _ | .aj,.tup _ | .aj,.ref _=>.isFalse nofun
 | .bl _,.aj | .bl _,.int _ | .bl _,.str _ | .bl _,.tup _ | .bl _,.ref _=>.isFalse nofun
 | .int _,.aj | .int _,.bl _ | .int _,.str _ | .int _,.tup _ | .int _,.ref _=>.isFalse nofun
 | .str _,.aj | .str _,.bl _ | .str _,.int _ | .str _,.tup _ | .str _,.ref _=>.isFalse nofun
 | .tup _,.aj | .tup _,.bl _ | .tup _,.int _ | .tup _,.str _ | .tup _,.ref _=>.isFalse nofun
 | .ref _,.aj | .ref _,.bl _ | .ref _,.int _ | .ref _,.str _ | .ref _,.tup _=>.isFalse nofun
noncomputable def D.Kr:(a b:List D)->Decidable (a=b)
 | [],[]=>.isTrue rfl
 | [],_::_=>.isFalse nofun
 | _::_,[]=>.isFalse nofun
 | x::xs,y::ys=>match D.dec x y,D.Kr xs ys with
  | .isTrue h1,.isTrue h2=>.isTrue (by rw[h1,h2])
  | .isFalse h,_=>.isFalse λe=>h (by cases e;rfl)
  | _,.isFalse h=>.isFalse λe=>h (by cases e;rfl)
end
noncomputable instance:DecidableEq D:=D.dec
inductive O where
 | lst (xs:List D) | cq (xs:List D) | aN (af:List (D×D)) | c7 (af:List (D×D)) | jx (af:List (D×D)) | obj (c:Nat) (fs:List (Nat×D))
noncomputable abbrev ae:=List O
inductive R (α:Type) where
 | ok (a:α) (S:ae) | bad
noncomputable def R.bind {α β:Type}(r:R α)(f:α->ae->R β):R β:=match r with
 | .ok a S=>f a S
 | .bad=>.bad
@[simp] theorem R.bJ {α β:Type}(a:α)(S:ae)(f:α->ae->R β):(R.ok a S).bind f=f a S:=rfl
noncomputable abbrev Env:=List (Option D)
noncomputable abbrev C (α:Type):=Env->ae->R α
noncomputable def C.bind {α β:Type}(c:C α)(f:α->C β):C β:=λρ S=>(c ρ S).bind λa S1=>f a ρ S1
noncomputable def a7 {α:Type}:C α:=λ_ _=>.bad
noncomputable def aE {α:Type}(b:Bool)(r:R α):R α:=if b=true then r else .bad
noncomputable def itemsOf (S:ae):D->Option (List D)
 | .tup xs=>some xs
 | .ref n=>match S[n]? with
  | some (.lst xs)=>some xs
  | some (.cq xs)=>some xs
  | _=>none
 | _=>none
noncomputable def kvsOf (S:ae):D->Option (List (D×D))
 | .ref n=>match S[n]? with
  | some (.aN af)=>some af
  | some (.c7 af)=>some af
  | _=>none
 | _=>none
noncomputable def lg (S:ae):D->Option Bool
 | .aj=>some false
 | .bl b=>some b
 | .int i=>some (i != 0)
 | .tup xs=>some (!xs.isEmpty)
 | .ref n=>match S[n]? with
  | some (.lst xs)=>some (!xs.isEmpty)
  | some (.cq xs)=>some (!xs.isEmpty)
  | _=>none
 | .str _=>none
noncomputable def bI:D->Bool
 | .aj | .bl _ | .int _ | .str _=>true
 | _=>false
noncomputable def gG:D->D->Bool
 | .aj,.aj=>true
 | .bl a,.bl b=>a==b
 | .bl a,.int b=>(if a then 1 else 0)==b
 | .int a,.bl b=>a==(if b then 1 else 0)
 | .int a,.int b=>a==b
 | .str a,.str b=>a==b
 | _,_=>false
noncomputable def jq (f:D->D->Option Bool):List D->List D->Option Bool
 | x::xs,y::ys=>match f x y,jq f xs ys with
  | some a,some b=>some (a&&b)
  | _,_=>none
 | _,_=>some true
noncomputable def cF (S:ae):Nat->D->D->Option Bool
 | 0,_,_=>none
 | n+1,.tup xs,.tup ys=>(jq (cF S n) xs ys).map λb=>b&&xs.length==ys.length
 | _+1,.tup _,b=>if bI b=true then some false else none
 | n+1,.ref i,.ref j=>match S[i]?,S[j]? with
  | some (.lst xs),some (.lst ys)=>if xs.length=ys.length then jq (cF S n) xs ys else some false
  | _,_=>none
 | _+1,a,.tup _=>if bI a=true then some false else none
 | _+1,a,b=>if bI a&&bI b then some (gG a b) else none
noncomputable def iS (S:ae)(n:Nat)(a b:D):Option Bool:=match a,b with
 | .ref i,.ref j=>match S[i]?,S[j]? with
  | some (.cq xs),some (.lst [])=>some xs.isEmpty
  | _,_=>cF S n a b
 | _,_=>cF S n a b
noncomputable def sj (n:Nat)(i:Int):Option Nat:=if 0<=i then (if i<n then some i.toNat else none) else if -(n:Int)<=i then some (i+n).toNat else none
noncomputable def j9 (xs:List D)(i:Int):Option D:=(sj xs.length i).bind λj=>xs[j]?
noncomputable def a9 (n d:Nat):Option Int->Nat
 | none=>d
 | some v=>if v<0 then (v+(n:Int)).toNat else min v.toNat n
noncomputable def cutD (xs:List D)(lo hi:Option Int):List D:=(xs.drop (a9 xs.length 0 lo)).take (a9 xs.length xs.length hi-a9 xs.length 0 lo)
noncomputable def cU (af:List (D×D))(k:D):Option D:=(af.find? λkv=>decide (kv.1=k)).map (·.2)
noncomputable def putD (af:List (D×D))(k v:D):List (D×D):=if (af.any λkv=>decide (kv.1=k))=true then af.map λkv=>if kv.1=k then (kv.1,v) else kv else af++[(k,v)]
noncomputable def iU (af:List (D×D))(k:D):List (D×D):=af.filter λkv=>decide (kv.1≠k)
noncomputable def dP:D->Bool
 | .int _ | .str _=>true
 | _=>false
noncomputable def aY:D->Bool
 | .tup xs=>xs.all dP
 | _=>false
noncomputable def eA:D->Bool
 | .tup [a,.int _]=>aY a
 | _=>false
noncomputable def cj (af:List (D×D))(k:D):Bool:=(dP k&&af.all λkv=>dP kv.1)||(aY k&&af.all λkv=>aY kv.1)
noncomputable def kz (S:ae)(a k:D):Option (Option D):=match a with
 | .ref n=>match S[n]? with
  | some (.aN af)=>if cj af k then some (cU af k) else none
  | some (.c7 af)=>if aY k then some (cU af k) else none
  | _=>none
 | _=>none
noncomputable def iq (S:ae)(a:D):Bool:=(kvsOf S a).isSome
noncomputable def d6 (f:Nat)(v:D):List (Nat×D)->List (Nat×D)
 | []=>[(f,v)]
 | (g,x)::r=>if g=f then (g,v)::r else (g,x)::d6 f v r
noncomputable def fI (o:O)(S:ae):R D:=.ok (.ref S.length) (S++[o])
noncomputable def big (n:Nat):Bool:=decide (n<=sizeLine)
noncomputable def xy (a b:D)(S:ae):R D:=match a,b with
 | .int i,.int j=>.ok (.int (i+j)) S
 | .tup xs,.tup ys=>aE (big (xs.length+ys.length)) (.ok (.tup (xs++ys)) S)
 | .ref m,.ref n=>match S[m]?,S[n]? with
  | some (.lst xs),some (.lst ys)=>aE (big (xs.length+ys.length)) (fI (.lst (xs++ys)) S)
  | _,_=>.bad
 | _,_=>.bad
noncomputable def hX (a b:Int):Bool:=decide (a.natAbs<2 ^ 64)||decide (b.natAbs<2 ^ 64)||(decide (a.natAbs<2 ^ 250)&&decide (b.natAbs<2 ^ 250))
noncomputable def wA (a b:D)(S:ae):R D:=match a,b with
 | .int i,.int j=>aE (hX i j) (.ok (.int (i*j)) S)
 | .ref l,.int k=>match S[l]? with
  | some (.lst xs)=>aE (decide (-(2 ^ 63)<=k)&&decide (k<2 ^ 63)&&decide (xs.length*k.toNat<=sizeLine)) (fI (.lst (List.replicate k.toNat xs).flatten) S)
  | _=>.bad
 | _,_=>.bad
noncomputable def fS (op:Operator)(a b:D)(S:ae):R D:=match op,a,b with
 | .Add,a,b=>xy a b S
 | .Sub,.int i,.int j=>.ok (.int (i-j)) S
 | .Mult,a,b=>wA a b S
 | .FloorDiv,.int i,.int j=>aE (decide (0<j)&&decide (j<2 ^ 250)) (.ok (.int (i / j)) S)
 | .Mod,.int i,.int j=>aE (decide (0<j)) (.ok (.int (i%j)) S)
 | .Pow,.int i,.int j=>aE (decide (i=10)&&(decide (j=18)||decide (j=9))) (.ok (.int (if j=18 then 1000000000000000000 else 1000000000)) S)
 | _,_,_=>.bad
noncomputable def depth:Nat:=8
noncomputable def bU:D->Bool
 | .tup xs=>many xs
 | .ref _=>false
 | _=>true
where many:List D->Bool
 | []=>true
 | x::xs=>bU x&&many xs
noncomputable def la (f:D->Option Bool):List D->Option Bool
 | []=>some false
 | x::xs=>match f x,la f xs with
  | some a,some b=>some (a||b)
  | _,_=>none
noncomputable def inD (S:ae)(x:D)(y:D):Option Bool:=if iq S y=true then (kz S y x).map Option.isSome else match itemsOf S y with
 | some ys=>if bU x&&bU.many ys then la (λz=>cF S 4 z x) ys else none
 | none=>match x,y with
  | .str x,.str y=>some (!(Builtin.Str.occurrences y x 0 y.length 1).isEmpty)
  | _,_=>none
noncomputable def d4 (o:Option Bool)(S:ae):R D:=match o with | some b=>.ok (.bl b) S | none=>.bad
noncomputable def bg (op:CmpOp)(a b:D)(S:ae):R D:=match op with
 | .Eq=>d4 (iS S depth a b) S
 | .NotEq=>d4 ((iS S depth a b).map (! ·)) S
 | .Lt=>match a,b with | .int i,.int j=>.ok (.bl (decide (i<j))) S | _,_=>.bad
 | .LtE=>match a,b with | .int i,.int j=>.ok (.bl (decide (i<=j))) S | _,_=>.bad
 | .Gt=>match a,b with | .int i,.int j=>.ok (.bl (decide (j<i))) S | _,_=>.bad
 | .GtE=>match a,b with | .int i,.int j=>.ok (.bl (decide (j<=i))) S | _,_=>.bad
 | .Is=>if b = .aj then .ok (.bl (decide (a = .aj))) S else .bad
 | .IsNot=>if b = .aj then .ok (.bl (!decide (a = .aj))) S else .bad
 | .In=>d4 (inD S a b) S
 | .NotIn=>d4 ((inD S a b).map (! ·)) S
noncomputable def dj (a i:D)(S:ae):R D:=if iq S a=true then (match kz S a i with | some (some v)=>.ok v S | _=>.bad) else match itemsOf S a,i with
 | some xs,.int k=>match j9 xs k with | some v=>.ok v S | none=>.bad
 | _,_=>.bad
noncomputable def nO (a:D)(lo hi:Option Int)(S:ae):R D:=match a with
 | .tup xs=>(.ok (.tup (cutD xs lo hi)) S)
 | .ref n=>match itemsOf S (.ref n) with
  | some xs=>fI (.lst (cutD xs lo hi)) S
  | none=>.bad
 | _=>.bad
noncomputable def dv (a i v:D)(S:ae):R Unit:=match a with
 | .ref n=>match S[n]?,i with
  | some (.lst xs),.int k=>match sj xs.length k with | some j=>.ok () (S.set n (.lst (xs.set j v))) | none=>.bad
  | some (.aN af),k=>if eA k=true then aE af.isEmpty (.ok () (S.set n (.jx [(k,v)]))) else aE (cj af k&&decide (af.length<sizeLine)) (.ok () (S.set n (.aN (putD af k v))))
  | some (.jx af),k=>aE (eA k&&decide (af.length<sizeLine)) (.ok () (S.set n (.jx (putD af k v))))
  | _,_=>.bad
 | _=>.bad
noncomputable def jT (a i:D)(S:ae):R Unit:=match a with
 | .ref n=>match S[n]? with
  | some (.aN af)=>aE (cj af i&&(cU af i).isSome) (.ok () (S.set n (.aN (iU af i))))
  | _=>.bad
 | _=>.bad
noncomputable def nc (a:D)(f:Nat)(S:ae):R D:=match a with
 | .ref n=>match S[n]? with
  | some (.obj _ fs)=>match fs.lookup f with | some v=>.ok v S | none=>.bad
  | _=>.bad
 | _=>.bad
noncomputable def i7 (pl:Nat->Nat->Bool)(a:D)(f:Nat)(v:D)(S:ae):R Unit:=match a with
 | .ref n=>match S[n]? with
  | some (.obj c fs)=>aE (decide (fs.length<900)&&pl c f) (.ok () (S.set n (.obj c (d6 f v fs))))
  | _=>.bad
 | _=>.bad
inductive Kd where | int | bool | str | tuple | list
 deriving DecidableEq
noncomputable def mI (S:ae)(k:Kd):D->Option Bool
 | .aj=>some false
 | .bl _=>some (k == .int||k == .bool)
 | .int _=>some (k == .int)
 | .str _=>some (k == .str)
 | .tup _=>some (k == .tuple)
 | .ref n=>match S[n]? with
  | some (.lst _)=>some (k == .list)
  | _=>none
noncomputable def oj (S:ae):D->Option Nat
 | .str x=>if x.length<=sizeLine then some x.length else none
 | a=>match kvsOf S a with
  | some af=>some af.length
  | none=>(itemsOf S a).map List.length
noncomputable def bools:List D->Option (List Bool)
 | []=>some []
 | .bl b::r=>(bools r).map (b :: ·)
 | _=>none
noncomputable def iR:List D->Option (List Int)
 | []=>some []
 | .int i::r=>(iR r).map (i :: ·)
 | _=>none
inductive B where | len | max2 | min2 | tuple | list
 deriving DecidableEq
noncomputable def bV (b:B)(vs:List D)(S:ae):R D:=match b,vs with
 | .len,[a]=>match oj S a with | some n=>.ok (.int n) S | none=>.bad
 | .max2,[.int i,.int j]=>.ok (.int (if j > i then j else i)) S
 | .min2,[.int i,.int j]=>.ok (.int (if j<i then j else i)) S
 | .tuple,[a]=>match itemsOf S a with | some xs=>.ok (.tup xs) S | none=>.bad
 | .list,[a]=>match kvsOf S a with
  | some af=>aE ((af.all λkv=>aY kv.1) && !af.isEmpty) (fI (.lst (af.map (·.1))) S)
  | none=>match itemsOf S a with | some xs=>fI (.lst xs) S | none=>.bad
 | _,_=>.bad
noncomputable def unlike (is:List Int):Nat:=(is.foldl (λσ k=>if σ.any (· == k) then σ else σ++[k]) []).length
noncomputable def lu (a:D)(S:ae):R D:=match a with
 | .ref n=>match S[n]? with
  | some (.lst xs)=>match iR xs with
   | some is=>aE (decide (is.length<=1000)) (.ok (.int (unlike is)) S)
   | none=>.bad
  | _=>.bad
 | _=>.bad
inductive Mt where | append | pop | get | qS | extend | remove | insert | count
 deriving DecidableEq
noncomputable def w4:Mt->O->Bool
 | .append,.lst _=>true
 | .pop,.aN _=>true
 | .get,.aN _=>true
 | .get,.jx _=>true
 | .qS,.aN _=>true
 | .extend,.lst _=>true
 | .remove,.lst _=>true
 | .insert,.lst _=>true
 | .count,.lst _=>true
 | _,_=>false
noncomputable def oP (n:Nat)(vs:List D)(S:ae):R D:=match S[n]?,vs with
 | some (.lst xs),[v]=>aE (decide (xs.length<sizeLine)) (.ok .aj (S.set n (.lst (xs++[v]))))
 | _,_=>.bad
noncomputable def Bx (n:Nat)(vs:List D)(S:ae):R D:=match S[n]?,vs with
 | some (.aN af),[k]=>aE (aY k&&cj af k) (match cU af k with | some v=>.ok v (S.set n (.aN (iU af k))) | none=>.bad)
 | _,_=>.bad
noncomputable def sW (n:Nat)(vs:List D)(S:ae):R D:=match S[n]?,vs with
 | some (.aN af),[k]=>aE (eA k&&af.isEmpty) (.ok .aj S)
 | some (.jx af),[k]=>aE (eA k) (.ok ((cU af k).getD .aj) S)
 | _,_=>.bad
noncomputable def vz (n:Nat)(vs:List D)(S:ae):R D:=match S[n]?,vs with
 | some (.aN af),[k,d]=>aE (aY k&&cj af k) (.ok ((cU af k).getD d) S)
 | _,_=>.bad
noncomputable def oZ (n:Nat)(vs:List D)(S:ae):R D:=match S[n]?,vs with
 | some (.lst xs),[.ref m]=>match S[m]? with
  | some (.lst ys)=>aE (big (xs.length+ys.length)) (.ok .aj (S.set n (.lst (xs++ys))))
  | _=>.bad
 | _,_=>.bad
noncomputable def pw (n:Nat)(vs:List D)(S:ae):R D:=match S[n]?,vs with
 | some (.lst xs),[.int i]=>match iR xs with
  | some is=>aE (decide (i∈is)) (.ok .aj (S.set n (.lst ((is.erase i).map .int))))
  | none=>.bad
 | _,_=>.bad
noncomputable def oV (n:Nat)(vs:List D)(S:ae):R D:=match S[n]?,vs with
 | some (.lst xs),[.int i,v]=>aE (decide (0<=i)&&decide (i.toNat<=xs.length)&&decide (xs.length<1000)) (.ok .aj (S.set n (.lst (xs.take i.toNat++v::xs.drop i.toNat))))
 | _,_=>.bad
noncomputable def rH (n:Nat)(vs:List D)(S:ae):R D:=match S[n]?,vs with
 | some (.lst xs),[v]=>aE (bI v&&xs.all bI) (.ok (.int (xs.countP λx=>gG x v)) S)
 | _,_=>.bad
noncomputable def p8:Mt->Nat->List D->ae->R D
 | .append=>oP
 | .pop=>Bx
 | .get=>sW
 | .qS=>vz
 | .extend=>oZ
 | .remove=>pw
 | .insert=>oV
 | .count=>rH
noncomputable def fj (m:Mt)(a:D)(vs:List D)(S:ae):R D:=match a with
 | .ref n=>p8 m n vs S
 | _=>.bad
noncomputable def aa (i:Nat):C D:=λρ S=>match ρ[i]? with
 | some (some d)=>.ok d S
 | _=>.bad
noncomputable def cE (d:D):C D:=λ_ S=>.ok d S
noncomputable def A2 (f:D->D->ae->R D)(a b:C D):C D:=λρ S=>(a ρ S).bind λx S1=>(b ρ S1).bind λy S2=>f x y S2
noncomputable def bD (op:Operator):C D->C D->C D:=A2 (fS op)
noncomputable def aB (op:CmpOp):C D->C D->C D:=A2 (bg op)
noncomputable def boolOf (d:D)(S:ae):R Bool:=match d with | .bl b=>.ok b S | _=>.bad
noncomputable def truthOf (d:D)(S:ae):R Bool:=match lg S d with | some b=>.ok b S | none=>.bad
noncomputable def iy (o1 o2:CmpOp)(a b c:C D):C D:=λρ S=>(a ρ S).bind λx S1=>(b ρ S1).bind λy S2=>(bg o1 x y S2).bind λr S3=>(boolOf r S3).bind λt S4=>if t=true then (c ρ S4).bind λz S5=>bg o2 y z S5 else .ok (.bl false) S4
noncomputable def Bj (a:C D):C D:=λρ S=>(a ρ S).bind λx S1=>match x with | .int i=>.ok (.int (-i)) S1 | _=>.bad
noncomputable def FR (a:C D):C D:=λρ S=>(a ρ S).bind λx S1=>(boolOf x S1).bind λb S2=>.ok (.bl (!b)) S2
noncomputable def gR (a b:C D):C D:=λρ S=>(a ρ S).bind λx S1=>(boolOf x S1).bind λt S2=>if t=true then b ρ S2 else .ok (.bl false) S2
noncomputable def G4 (a b:C D):C D:=λρ S=>(a ρ S).bind λx S1=>(boolOf x S1).bind λt S2=>if t=true then .ok (.bl true) S2 else b ρ S2
noncomputable def mG (c:C Bool)(a b:C D):C D:=λρ S=>(c ρ S).bind λt S1=>if t=true then a ρ S1 else b ρ S1
noncomputable def bX:List (C D)->C (List D)
 | []=>λ_ S=>.ok [] S
 | c::cs=>λρ S=>(c ρ S).bind λx S1=>(bX cs ρ S1).bind λxs S2=>.ok (x::xs) S2
noncomputable def bp (cs:List (C D)):C D:=λρ S=>aE (big cs.length) ((bX cs ρ S).bind λxs S1=>.ok (.tup xs) S1)
noncomputable def aR (cs:List (C D)):C D:=λρ S=>aE (big cs.length) ((bX cs ρ S).bind λxs S1=>fI (.lst xs) S1)
noncomputable def jD:C D:=λ_ S=>fI (.aN []) S
noncomputable def bQ (a b:C D):C D:=A2 dj a b
noncomputable def tj (c:Option (C D)):C (Option Int):=λρ S=>match c with
 | none=>.ok none S
 | some c=>(c ρ S).bind λx S1=>match x with | .int i=>.ok (some i) S1 | _=>.bad
noncomputable def j5 (a:C D)(lo hi:Option (C D)):C D:=λρ S=>(a ρ S).bind λx S1=>(tj lo ρ S1).bind λl S2=>(tj hi ρ S2).bind λh S3=>nO x l h S3
noncomputable def aH (a:C D)(f:Nat):C D:=λρ S=>(a ρ S).bind λx S1=>nc x f S1
noncomputable def ao (f:List D->ae->R D)(cs:List (C D)):C D:=λρ S=>(bX cs ρ S).bind λxs S1=>f xs S1
noncomputable def lN (k:Kd)(a:C D):C D:=λρ S=>(a ρ S).bind λx S1=>d4 (mI S1 k x) S1
noncomputable def az (has:Nat->Nat->Bool)(call:Nat->Nat->List D->ae->R D)(m:Option Nat)(bm:Option Mt)(a:C D)(cs:List (C D)):C D:=λρ S=>(a ρ S).bind λx S1=>match x with
 | .ref n=>match S1[n]? with
  | some (.obj c fs)=>match m with
   | some m=>aE ((fs.lookup m).isNone&&has c m) ((bX cs ρ S1).bind λxs S2=>call c m (x::xs) S2)
   | none=>.bad
  | some o=>match bm with
   | some b=>aE (w4 b o) ((bX cs ρ S1).bind λxs S2=>fj b x xs S2)
   | none=>.bad
  | none=>.bad
 | _=>.bad
noncomputable def cX (_:Nat->Nat->Bool)(_:Nat->Nat->List D->ae->R D)(_:Option Nat)(a:C D):C D:=λρ S=>(a ρ S).bind λx S1=>bV .len [x] S1
noncomputable def oM (kw:List (Str×D))(ks:List Str)(zs:List D):List D:=kw.map λp=>((ks.zip zs).lookup p.1).getD p.2
noncomputable def ia (init:List D->ae->R D)(c:Nat)(cs:List (C D))(kw:List (Str×D))(ks:List Str)(ds:List (C D)):C D:=λρ S=>(bX cs ρ S).bind λxs S1=>(bX ds ρ S1).bind λzs S2=>(init (.ref S2.length::xs++oM kw ks zs) (S2++[.obj c []])).bind λr S3=>match r with | .aj=>.ok (.ref S2.length) S3 | _=>.bad
noncomputable def pB (a:C D):C D:=λρ S=>(a ρ S).bind λx S1=>lu x S1
inductive Src where
 | dyn (a:C D)
 | range (a:C D)
 | down (a:C D)
noncomputable def d5 (lo:Int)(n:Nat):List D:=(List.range n).map λ(k:Nat)=>.int (lo+(k:Int))
noncomputable def gK (n:Nat):List D:=(List.range (n+1)).map λ(k:Nat)=>.int ((n:Int)-(k:Int))
noncomputable def k9:List Nat->List D->Env->Option Env
 | [],[],ρ=>some ρ
 | i::is,d::ds,ρ=>k9 is ds (ρ.set i (some d))
 | _,_,_=>none
noncomputable def pZ (is:List Nat)(one:Bool)(d:D)(ρ:Env):Option Env:=if one then (match is with | [i]=>some (ρ.set i (some d)) | _=>none) else (match d with | .tup ds=>k9 is ds ρ | _=>none)
noncomputable def bB {α:Type}(chk:ae->Bool)(is:List Nat)(one:Bool)(t:C Bool)(b:α->C α)(ρ:Env):List D->α->ae->R α
 | [],a,S=>if chk S=true then .ok a S else .bad
 | x::xs,a,S=>if chk S=true then (match pZ is one x ρ with
  | some ρ1=>(t ρ1 S).bind λc S1=>if c=true then (b a ρ1 S1).bind λa1 S2=>bB chk is one t b ρ xs a1 S2 else bB chk is one t b ρ xs a S1
  | none=>.bad) else .bad
noncomputable def signs (z:Str):List D:=z.cps.toList.map λc=>.str ⟨#[c]⟩
noncomputable def eZ (a:D)(all:List D):ae->Bool:=λS=>decide (itemsOf S a=some all)
noncomputable def eX (j:Int):Bool:=decide (-(2 ^ 62)<=j)&&decide (j<2 ^ 62)
noncomputable def iu {α:Type}(is:List Nat)(one:Bool)(t:C Bool)(b:α->C α)(ρ:Env)(a:α)(x:D)(S:ae):R α:=match x with
 | .tup xs=>(bB (λ_=>true) is one t b ρ xs a S)
 | .str z=>aE one ((bB (λ_=>true) is one t b ρ (signs z) a S))
 | .ref n=>match S[n]? with
  | some (.aN af)=>aE (af.all λkv=>aY kv.1) (((bB (λ_=>true) is one t b ρ (af.map (·.1)) a (S.set n (.c7 af)))).bind λa1 S2=>match S2[n]? with | some (.c7 oz)=>.ok a1 (S2.set n (.aN oz)) | _=>.bad)
  | some (.lst xs)=>(bB (eZ (.ref n) xs) is one t b ρ xs a S)
  | _=>.bad
 | _=>.bad
noncomputable def blank (is:List Nat)(ρ:Env):Bool:=is.all λi=>match ρ[i]? with | some none=>true | _=>false
noncomputable def inner (n:Nat)(ρ:Env):Env:=List.replicate n none++ρ
noncomputable def ie {α:Type}(n:Nat)(s:Src)(is:List Nat)(one:Bool)(t:C Bool)(b:α->C α)(a:α):C α:=λρ S=>aE (blank is (inner n ρ)) (match s with
 | .dyn c=>(c ρ S).bind λx S1=>iu is one t b (inner n ρ) a x S1
 | .range c=>(c ρ S).bind λx S1=>match x with
  | .int j=>aE (eX j&&decide (j.toNat<=sizeLine)) ((bB (λ_=>true) is one t b (inner n ρ) (d5 0 j.toNat) a S1))
  | _=>.bad
 | .down _=>.bad)
noncomputable def bL (e:C D)(ys:List D):C (List D):=λρ S=>aE (decide (ys.length<sizeLine)) ((e ρ S).bind λy S1=>.ok (ys++[y]) S1)
noncomputable def always:C Bool:=λ_ S=>.ok true S
noncomputable def sZ (c:C (List D)):C D:=λρ S=>(c ρ S).bind λys S1=>match bools ys with | some bs=>.ok (.bl (bs.all id)) S1 | none=>.bad
noncomputable def sg (c:C (List D)):C D:=λρ S=>(c ρ S).bind λys S1=>.ok (.tup ys) S1
noncomputable def cw (a:C D):C Bool:=λρ S=>(a ρ S).bind λx S1=>truthOf x S1
noncomputable def av (a:C D):C Bool:=λρ S=>(a ρ S).bind λx S1=>boolOf x S1
noncomputable def df (a:C Bool):C Bool:=λρ S=>(a ρ S).bind λb S1=>.ok (!b) S1
noncomputable def iH (a b:C Bool):C Bool:=λρ S=>(a ρ S).bind λt S1=>if t=true then b ρ S1 else .ok false S1
noncomputable def jf (a b:C Bool):C Bool:=λρ S=>(a ρ S).bind λt S1=>if t=true then .ok true S1 else b ρ S1
inductive F where
 | nx (ρ:Env) (S:ae) | rt (d:D) (S:ae) | bk (ρ:Env) (S:ae) | ct (ρ:Env) (S:ae) | bad
noncomputable abbrev CS:=Env->ae->F
noncomputable def dY {α:Type}(r:R α)(f:α->ae->F):F:=match r with
 | .ok a S=>f a S
 | .bad=>.bad
@[simp] theorem BR {α:Type}(a:α)(S:ae)(f:α->ae->F):dY (.ok a S) f=f a S:=rfl
noncomputable def F.then (r:F)(k:CS):F:=match r with
 | .nx ρ S=>k ρ S
 | r=>r
@[simp] theorem F.Iv (ρ:Env)(S:ae)(k:CS):(F.nx ρ S).then k=k ρ S:=rfl
noncomputable def ah:List CS->CS
 | []=>λρ S=>.nx ρ S
 | c::cs=>λρ S=>(c ρ S).then (ah cs)
noncomputable def G3:CS:=λρ S=>.nx ρ S
noncomputable def nM:CS:=λρ S=>.bk ρ S
noncomputable def GP:CS:=λρ S=>.ct ρ S
noncomputable def cf:CS:=λ_ _=>.bad
noncomputable def bh (e:C D):CS:=λρ S=>dY (e ρ S) λ_ S1=>.nx ρ S1
noncomputable def retS (e:C D):CS:=λρ S=>dY (e ρ S) λd S1=>.rt d S1
noncomputable def bA (c:C Bool)(a b:CS):CS:=λρ S=>dY (c ρ S) λt S1=>if t=true then a ρ S1 else b ρ S1
noncomputable def bf (i:Nat)(e:C D):CS:=λρ S=>dY (e ρ S) λd S1=>.nx (ρ.set i (some d)) S1
noncomputable def ke (is:List Nat)(cs:List (C D)):CS:=λρ S=>dY (bX cs ρ S) λds S1=>match k9 is ds ρ with | some ρ'=>.nx ρ' S1 | none=>.bad
noncomputable def tupS (is:List Nat)(e:C D):CS:=λρ S=>dY (e ρ S) λd S1=>match d with | .tup ds=>(match k9 is ds ρ with | some ρ'=>.nx ρ' S1 | none=>.bad) | _=>.bad
noncomputable def eW (pl:Nat->Nat->Bool)(o:C D)(f:Nat)(e:C D):CS:=λρ S=>dY (e ρ S) λv S1=>dY (o ρ S1) λx S2=>dY (i7 pl x f v S2) λ_ S3=>.nx ρ S3
noncomputable def iw (o i:C D)(e:C D):CS:=λρ S=>dY (e ρ S) λv S1=>dY (o ρ S1) λx S2=>dY (i ρ S2) λk S3=>dY (dv x k v S3) λ_ S4=>.nx ρ S4
noncomputable def oe (o i:C D):CS:=λρ S=>dY (o ρ S) λx S1=>dY (i ρ S1) λk S2=>dY (jT x k S2) λ_ S3=>.nx ρ S3
noncomputable def Ha (r:F)(k:Env->ae->F):F:=match r with
 | .nx ρ S=>k ρ S
 | .ct ρ S=>k ρ S
 | .bk ρ S=>.nx ρ S
 | r=>r
noncomputable def ee (chk:ae->Bool)(is:List Nat)(one:Bool)(b:CS):List D->CS
 | [],ρ,S=>if chk S=true then .nx ρ S else .bad
 | x::xs,ρ,S=>if chk S=true then (match pZ is one x ρ with
  | some ρ1=>Ha (b ρ1 S) (ee chk is one b xs)
  | none=>.bad) else .bad
noncomputable def forL:List Nat->Bool->CS->List D->CS:=ee λ_=>true
noncomputable def BV (a:D)(all:List D):List Nat->Bool->CS->List D->CS:=ee (eZ a all)
noncomputable def sf (n:Nat)(r:F):F:=match r with
 | .nx ρ S=>match S[n]? with | some (.c7 af)=>.nx ρ (S.set n (.aN af)) | _=>.bad
 | _=>.bad
noncomputable def nC (is:List Nat)(one:Bool)(b:CS)(x:D):CS:=λρ S=>match x with
 | .ref n=>match S[n]? with
  | some (.lst xs)=>BV (.ref n) xs is one b xs ρ S
  | some (.aN af)=>if (af.all λkv=>aY kv.1)=true then sf n (forL is one b (af.map (·.1)) ρ (S.set n (.c7 af))) else .bad
  | _=>.bad
 | _=>.bad
noncomputable def Ei (s:Src)(is:List Nat)(one:Bool)(b:CS):CS:=λρ S=>match s with
 | .dyn a=>dY (a ρ S) λx S1=>nC is one b x ρ S1
 | .range a=>dY (a ρ S) λx S1=>match x with
  | .int j=>if eX j=true then forL is one b (d5 0 j.toNat) ρ S1 else .bad
  | _=>.bad
 | .down a=>dY (a ρ S) λx S1=>match x with
  | .int j=>if 0<=j/\j<=1000 then forL is one b (gK j.toNat) ρ S1 else .bad
  | _=>.bad
noncomputable def kF (n:Nat):D->Bool
 | .tup xs=>tO n xs
 | .ref m=>decide (m<n)
 | _=>true
where tO (n:Nat):List D->Bool
 | []=>true
 | x::xs=>kF n x&&tO n xs
noncomputable def i0 (n:Nat):O->Bool
 | .lst xs | .cq xs=>xs.all (kF n)
 | .aN af | .c7 af | .jx af=>af.all λkv=>kF n kv.1&&kF n kv.2
 | .obj _ fs=>fs.all λf=>kF n f.2
noncomputable def gk (n:Nat)(ρ:Env):Env:=ρ.map λo=>o.bind λd=>if kF n d=true then some d else none
noncomputable def iN (n:Nat)(a:D)(all:List D)(i:Nat)(b:CS):List D->CS
 | [],ρ,S=>if eZ a all S=true then .nx ρ S else .bad
 | x::xs,ρ,S=>if eZ a all S=true then (match b (ρ.set i (some x)) S with
  | .nx ρ1 S1=>if (S1.take n).all (i0 n)=true/\n<=S1.length then iN n a all i b xs (gk n ρ1) (S1.take n) else .bad
  | .rt d S1=>.rt d S1
  | _=>.bad) else .bad
noncomputable def xI (n:Nat)(S:ae):Option ae:=match (S[0]?:Option O) with
 | some (.cq xs)=>if S.length<=n then some (S++List.replicate (n-S.length) (.cq xs)) else none
 | _=>none
noncomputable def jG (n:Nat)(e:C D)(i:Nat)(b:CS):CS:=λρ S=>(dY (e ρ S) λx S1=>match x with
 | .ref m=>match S1[m]?,xI n S1 with
  | some (.lst xs),some S2=>if S2.all (i0 n)=true then iN n x xs i b xs (gk n ρ) S2 else .bad
  | _,_=>.bad
 | _=>.bad)
noncomputable def gM (s:Src)(is:List Nat)(one:Bool)(b:CS):CS:=Ei s is one b
structure Tab where
 cons:List (Str×D)
 cJ:List Str
 eg:List Str
 gf:List Str
 BG:List Str
 meths:List (Nat×Nat)
 kwo:List (Nat×List (Str×D)):=[]
 pay:List (Nat×Str):=[]
noncomputable def Tab.aJ (T:Tab)(c f:Nat):Bool:=T.meths.any λp=>p.1==c&&p.2==f
noncomputable def Tab.dh (T:Tab)(c:Nat):List (Str×D):=(T.kwo.lookup c).getD []
noncomputable def Tab.plain (T:Tab)(c f:Nat):Bool:=!T.aJ c f
structure Calls where
 f:Nat->List D->ae->R D
 m:Nat->Nat->List D->ae->R D
structure Gm where
 N:List Str
 sc:Scope
 lam:Bool
structure d0 where
 e:Gm->Expr->C D
 t:Gm->Expr->C Bool
 s:Gm->Stmt->CS
noncomputable def bY (l:List Str)(x:Str):Option Nat:=l.findIdx? λy=>decide (y=x)
noncomputable def pj (x:Str):Bool:=(x==("__debug__":Str))||(x==("__classdict__":Str))
noncomputable def Ar (T:Tab)(Γ:Gm)(x:Str):C D:=if pj x=true then a7 else match Γ.sc.names.lookup x with
 | some .local | some .cell | some .free=>match bY Γ.N x with | some i=>aa i | none=>a7
 | some .globalImplicit=>match T.cons.lookup x with | some d=>cE d | none=>a7
 | _=>a7
noncomputable def fb (Γ:Gm)(x:Str):Bool:=!pj x&&(Γ.sc.names.lookup x==some .globalImplicit)
noncomputable def aL:Expr->Bool
 | .Starred _ _=>false
 | _=>true
noncomputable def ji:Expr->Bool
 | .Call (.Name _ _) [] [] _=>false
 | _=>true
noncomputable def dI:Expr->Bool
 | .Set _ _ _=>false
 | _=>true
noncomputable def eY:Expr->Bool
 | .Slice _ _ _ _=>false
 | _=>true
noncomputable def fY:Expr->Bool
 | .ListComp _ _ _ _ | .SetComp _ _ _ _ | .DictComp _ _ _ _ _=>true
 | _=>false
noncomputable def kdOf (x:Str):Option Kd:=if x=("int":Str) then some .int else if x=("bool":Str) then some .bool else if x=("str":Str) then some .str else if x=("tuple":Str) then some .tuple else if x=("list":Str) then some .list else none
noncomputable def wJ (x:Str)(n:Nat):Option B:=if x=("max":Str)/\n=2 then some .max2 else if x=("min":Str)/\n=2 then some .min2 else
 if x=("tuple":Str)/\n=1 then some .tuple else if x=("list":Str)/\n=1 then some .list else none
noncomputable def AY (x:Str)(n:Nat):Option Mt:=if x=("append":Str)/\n=1 then some .append else if x=("pop":Str)/\n=1 then some .pop else if x=("get":Str)/\n=1 then some .get else if x=("get":Str)/\n=2 then some .qS else if x=("extend":Str)/\n=1 then some .extend else if x=("remove":Str)/\n=1 then some .remove else if x=("insert":Str)/\n=2 then some .insert else if x=("count":Str)/\n=1 then some .count else none
noncomputable def b8 (xs N:List Str):List Str:=N.map λy=>if xs.contains y=true then y++("?":Str) else y
noncomputable def jl (sc outer:Scope)(xs M:List Str):Bool:=
 (sc.kind == .function)&&sc.names.all (λp=>p.2 != NameKind.cell)&&xs.all (λx=>sc.names.lookup x==some NameKind.local)&&sc.names.all (λp=>p.2 != NameKind.local||sc.names.lookup p.1==some NameKind.local) &&
 sc.names.all (λp=>p.2 != NameKind.free||(outer.names.lookup p.1==some NameKind.cell||outer.names.lookup p.1==some NameKind.free))&&M.all (λy=>sc.names.lookup y != some NameKind.local)
noncomputable def j4:List Str->Bool
 | []=>true
 | x::xs=>!(xs.any λy=>decide (y=x))&&j4 xs
noncomputable def eo (sc:Scope)(xs N:List Str):Bool:=j4 (xs++b8 xs N) && !(sc.names.any λp=>xs.any λx=>decide (p.1=x++("?":Str)))
noncomputable def slot (Γ:Gm)(x:Str):Option Nat:=if Γ.sc.names.lookup x==some .local||Γ.sc.names.lookup x==some .cell then bY Γ.N x else none
noncomputable def slots (Γ:Gm):List Expr->Option (List Nat)
 | []=>some []
 | .Name x _::r=>match slot Γ x,slots Γ r with | some i,some is=>if is.contains i then none else some (i::is) | _,_=>none
 | _=>none
noncomputable def zJ:Expr->List Str
 | .Name x _=>[x]
 | .Tuple ts _ _=>ts.filterMap λt=>match t with | .Name x _=>some x | _=>none
 | _=>[]
noncomputable def jP (Γ:Gm):Expr->Option (List Nat×Bool)
 | .Name x _=>(slot Γ x).map λi=>([i],true)
 | .Tuple ts _ _=>(slots Γ ts).map λis=>(is,false)
 | _=>none
noncomputable def rm:Expr->Bool
 | .UnaryOp .USub (.Constant (.int 1) _ _) _=>true
 | _=>false
noncomputable def srcOf (T:Tab)(k:d0)(Γ:Gm)(it:Expr):Option Src:=match it with
 | .Call (.Name r _) [a] [] _=>if r=("range":Str)/\fb Γ r=true/\aL a=true then some (.range (k.e Γ a)) else if dI it=true then some (.dyn (k.e Γ it)) else none
 | .Call (.Name r _) [a,b,c] [] _=>if r=("range":Str)/\fb Γ r=true/\aL a=true/\rm b=true/\rm c=true then some (.down (k.e Γ a)) else none
 | _=>if dI it=true then some (.dyn (k.e Γ it)) else none
noncomputable def EO (Γ:Gm)(sc:Scope)(xs:List Str):Option Gm:=if jl sc Γ.sc xs (b8 xs Γ.N)=true/\eo sc xs Γ.N=true then some ⟨xs++b8 xs Γ.N,sc,false⟩ else none
noncomputable def Bi (k:d0)(Γ:Gm):List Expr->Option (C Bool)
 | []=>some always
 | [c]=>some (k.t Γ c)
 | _=>none
noncomputable def El {α:Type}(T:Tab)(k:d0)(Γ Γ':Gm)(n:Nat)(tg it:Expr)(ifs:List Expr)(b:α->C α):Option (α->C α):=match srcOf T k Γ it,jP Γ' tg,Bi k Γ' ifs with
 | some s,some (is,one),some t=>some (ie n s is one t b)
 | _,_,_=>none
noncomputable def iT (T:Tab)(k:d0)(Γ:Gm)(e:Expr):Option (C (List D)):=match e with
 | .ListComp elt [⟨tg,it,ifs,0⟩] sc _=>(EO Γ sc (zJ tg)).bind λΓ'=>(El T k Γ Γ' (zJ tg).length tg it ifs (bL (k.e Γ' elt))).map λf=>f []
 | _=>none
noncomputable def OP (T:Tab)(Γ:Gm)(t:Str):Bool:=fb Γ t&&(bY T.eg t).isNone&&(bY T.gf t).isNone&&(T.cons.lookup t).isNone&&(bY T.BG t).isNone
noncomputable def setArg (T:Tab)(Γ:Gm):Expr->Option Expr
 | .Call (.Name s _) [b] [] _=>if s=("set":Str)/\OP T Γ s=true/\aL b=true then some b else none
 | _=>none
noncomputable def Fs (T:Tab)(cl:Calls)(k:d0)(Γ:Gm)(a:Expr):C D:=match setArg T Γ a with
 | some b=>pB (k.e Γ b)
 | none=>cX T.aJ cl.m (bY T.cJ "__len__") (k.e Γ a)
noncomputable def Bu (T:Tab)(cl:Calls)(k:d0)(Γ:Gm)(x:Str)(args:List Expr)(kws:List Keyword):C D:=
 if fb Γ x=false\/args.all aL=false\/args.isEmpty=true\/(kws.all λq=>q.arg.isSome)=false\/x=("_law_told":Str) then a7 else match bY T.eg x,bY T.gf x,bY T.cJ "__init__" with
 | none,some c,some i=>if T.aJ c i=true/\T.dh c≠[]/\(kws.all λq=>(T.dh c).any λp=>decide (some p.1=q.arg))=true/\j4 (kws.filterMap (·.arg))=true then ia (cl.m c i) c (args.map (k.e Γ)) (T.dh c) (kws.filterMap (·.arg)) (kws.map λq=>k.e Γ q.value) else a7
 | _,_,_=>a7
noncomputable def Al (T:Tab)(cl:Calls)(k:d0)(Γ:Gm)(x:Str)(args:List Expr):C D:=
 if fb Γ x=false\/args.all aL=false then a7 else
 match bY T.eg x with
 | some f=>ao (cl.f f) (args.map (k.e Γ))
 | none=>match bY T.gf x with
  | some c=>match bY T.cJ "__init__" with
   | some i=>if T.aJ c i=true/\(T.dh c=[]\/args.isEmpty=false) then ia (cl.m c i) c (args.map (k.e Γ)) (T.dh c) [] [] else a7
   | none=>a7
  | none=>if (T.cons.lookup x).isSome=true\/(bY T.BG x).isSome=true then a7 else
   if x=("isinstance":Str) then (match args with
    | [a,.Name t _]=>match kdOf t with
     | some kd=>if fb Γ t=true/\(bY T.eg t).isNone=true/\(bY T.gf t).isNone=true/\(T.cons.lookup t).isNone=true/\(bY T.BG t).isNone=true then lN kd (k.e Γ a) else a7
     | none=>a7
    | _=>a7)
   else match args with
    | [a]=>if x=("len":Str) then Fs T cl k Γ a else match iT T k Γ a with
     | some c=>if x=("all":Str) then sZ c else if x=("tuple":Str) then sg c else (match wJ x 1 with | some b=>ao (bV b) [k.e Γ a] | none=>a7)
     | none=>match wJ x 1 with | some b=>ao (bV b) [k.e Γ a] | none=>a7
    | _=>match wJ x args.length with | some b=>ao (bV b) (args.map (k.e Γ)) | none=>a7
noncomputable def Cu:PySem.Const->C D
 | .none=>cE .aj
 | .bool b=>cE (.bl b)
 | .int i=>cE (.int i)
 | .str x=>cE (.str x)
 | _=>a7
noncomputable def G9 (k:d0)(Γ:Gm)(op:BoolOp)(p:Pos):List Expr->C D
 | []=>a7
 | [a]=>k.e Γ a
 | a::b::r=>match op with
  | .And=>gR (k.e Γ a) (k.e Γ (.BoolOp .And (b::r) p))
  | .Or=>G4 (k.e Γ a) (k.e Γ (.BoolOp .Or (b::r) p))
noncomputable def Fx (k:d0)(Γ:Gm)(a:Expr)(ops:List CmpOp)(bs:List Expr):C D:=match ops,bs with
 | [op],[b]=>if dI b=true then aB op (k.e Γ a) (k.e Γ b) else a7
 | [o1,o2],[b,c]=>if dI b=true/\dI c=true then iy o1 o2 (k.e Γ a) (k.e Γ b) (k.e Γ c) else a7
 | _,_=>a7
noncomputable def LZ (k:d0)(Γ:Gm)(a b:Expr):C D:=match b with
 | .Slice lo hi st _=>match st with
  | none=>j5 (k.e Γ a) (lo.map (k.e Γ)) (hi.map (k.e Γ))
  | some _=>a7
 | _=>bQ (k.e Γ a) (k.e Γ b)
noncomputable def Mg (T:Tab)(cl:Calls)(k:d0)(Γ:Gm)(f:Expr)(args:List Expr)(kws:List Keyword)(cp:Pos):C D:=match f with
 | .Name x _=>match kws with
  | []=>Al T cl k Γ x args
  | kw::kws=>Bu T cl k Γ x args (kw::kws)
 | .Attribute a m ap=>if kws.isEmpty=true/\ji a=true/\args.all aL=true/\(ap.endLine==cp.line)=true/\args.length<30/\m≠("__init__":Str) then az T.aJ cl.m (bY T.cJ m) (AY m args.length) (k.e Γ a) (args.map (k.e Γ)) else a7
 | _=>a7
noncomputable def rF (T:Tab)(cl:Calls)(k:d0)(Γ:Gm)(e:Expr):C D:=match e with
 | .Constant c _ _=>Cu c
 | .Name x _=>Ar T Γ x
 | .BinOp a op b _=>bD op (k.e Γ a) (k.e Γ b)
 | .UnaryOp op a _=>match op with
  | .Not=>FR (k.e Γ a)
  | .USub=>Bj (k.e Γ a)
  | _=>a7
 | .BoolOp op es p=>G9 k Γ op p es
 | .IfExp c a b _=>mG (k.t Γ c) (k.e Γ a) (k.e Γ b)
 | .Compare a ops bs _=>Fx k Γ a ops bs
 | .Tuple es _ _=>if es.all aL=true then bp (es.map (k.e Γ)) else a7
 | .List es _=>if es.all aL=true then aR (es.map (k.e Γ)) else a7
 | .Dict ks vs _=>if ks.isEmpty=true/\vs.isEmpty=true then jD else a7
 | .Attribute a f _=>match bY T.cJ f with | some i=>if ji a=true then aH (k.e Γ a) i else a7 | none=>a7
 | .Subscript a b _=>LZ k Γ a b
 | .ListComp el gs sc p=>match iT T k Γ (.ListComp el gs sc p) with | some c=>λρ S=>(c ρ S).bind λys S1=>fI (.lst ys) S1 | none=>a7
 | .Call f args kws cp=>Mg T cl k Γ f args kws cp
 | _=>a7
noncomputable def N9 (k:d0)(Γ:Gm)(op:BoolOp)(p:Pos):List Expr->C Bool
 | []=>a7
 | [a]=>k.t Γ a
 | a::b::r=>match op with
  | .And=>iH (k.t Γ a) (k.t Γ (.BoolOp .And (b::r) p))
  | .Or=>jf (k.t Γ a) (k.t Γ (.BoolOp .Or (b::r) p))
noncomputable def O1 (k:d0)(Γ:Gm)(a:Expr)(ops:List CmpOp)(bs:List Expr)(p:Pos):C Bool:=match ops,bs with
 | [op],[b]=>av (k.e Γ (.Compare a [op] [b] p))
 | [o1,o2],[b,c]=>av (k.e Γ (.Compare a [o1,o2] [b,c] p))
 | _,_=>a7
noncomputable def stepT (T:Tab)(k:d0)(Γ:Gm)(e:Expr):C Bool:=match e with
 | .UnaryOp op a _=>match op with
  | .Not=>df (k.t Γ a)
  | _=>a7
 | .BoolOp op es p=>N9 k Γ op p es
 | .IfExp _ _ _ _=>a7
 | .Compare a ops bs p=>O1 k Γ a ops bs p
 | e=>cw (k.e Γ e)
noncomputable def Hg (Γ:Gm)(l:Nat):Expr->Bool
 | .Name id p=>Γ.sc.names.lookup id==some .local&&p.line==l
 | _=>false
noncomputable def AH (Γ:Gm)(ts es:List Expr):Option Bool:=
 if ts.all (Hg Γ ((ts.head?.map (·.pos.line)).getD 0))=false then some false
 else if es.all (foldedForSure 8)=true then some false else if es.all (constantsAlone 8)=true then none else some true
noncomputable def lZ (it:Expr):Bool:=match it with
 | .Call f _ _ _=>match f with | .Name x _=>x==("_law_rounds":Str) | _=>false
 | _=>false
noncomputable def jb:Nat:=10
noncomputable def EK (k:d0)(Γ:Gm)(ts:List Expr)(e:Expr):CS:=match slots Γ ts with
 | none=>cf
 | some is=>match e with
  | .Tuple es _ _=>if es.all aL=true/\(es.length=2\/es.length=3)/\es.length=ts.length/\(AH Γ ts es).isSome=true then ke is (es.map (k.e Γ)) else cf
  | e=>if fY e=true then cf else tupS is (k.e Γ e)
noncomputable def Ku (T:Tab)(k:d0)(Γ:Gm)(tg:Expr)(e:Expr):CS:=match tg with
 | .Name x _=>match slot Γ x with | some i=>bf i (k.e Γ e) | none=>cf
 | .Tuple ts _ _=>EK k Γ ts e
 | .Attribute a f _=>match bY T.cJ f with | some i=>eW T.plain (k.e Γ a) i (k.e Γ e) | none=>cf
 | .Subscript a i _=>if fY e=true\/eY i=false then cf else iw (k.e Γ a) (k.e Γ i) (k.e Γ e)
 | _=>cf
noncomputable def FF (T:Tab)(k:d0)(Γ:Gm)(tg it:Expr)(body:List Stmt):CS:=match tg with
 | .Name x _=>match slot Γ x,srcOf T k Γ it with
  | some i,some s=>if lZ it=true then jG jb (k.e Γ it) i (ah (body.map (k.s Γ))) else gM s [i] true (ah (body.map (k.s Γ)))
  | _,_=>cf
 | .Tuple ts _ _=>match slots Γ ts,srcOf T k Γ it with | some is,some s=>gM s is false (ah (body.map (k.s Γ))) | _,_=>cf
 | _=>cf
noncomputable def G6 (T:Tab)(cl:Calls)(k:d0)(Γ:Gm)(s:Stmt):CS:=match s with
 | .Pass _=>G3
 | .Break _=>nM
 | .Continue _=>GP
 | .Expr e _=>if fY e=true then cf else bh (k.e Γ e)
 | .Return o _=>match o with
  | some e=>retS (k.e Γ e)
  | none=>retS (cE .aj)
 | .If c a b _=>bA (k.t Γ c) (ah (a.map (k.s Γ))) (ah (b.map (k.s Γ)))
 | .Assign ts e _=>match ts with
  | [tg]=>Ku T k Γ tg e
  | _=>cf
 | .Delete ts _=>match ts with
  | [.Subscript a i _]=>if eY i=true then oe (k.e Γ a) (k.e Γ i) else cf
  | _=>cf
 | .For tg it body els _=>if els.isEmpty=true then FF T k Γ tg it body else cf
 | _=>cf
noncomputable def qX (T:Tab)(cl:Calls):Nat->d0
 | 0=>⟨λ_ _=>a7,λ_ _=>a7,λ_ _=>cf⟩
 | n+1=>⟨λΓ e=>rF T cl (qX T cl n) Γ e,λΓ e=>stepT T (qX T cl n) Γ e,λΓ s=>G6 T cl (qX T cl n) Γ s⟩
structure Fn where
 ps:List Str
 N:List Str
 sc:Scope
 body:List Stmt
 lam:Bool:=false
noncomputable def OM (s:Stmt):Option (Arguments×List Stmt×Scope):=match s with
 | .FunctionDef _ a b _ _ _ sc _ _ _=>some (a,b,sc)
 | _=>none
noncomputable def namesOf (ps:List Str)(sc:Scope):List Str:=ps++((sc.names.filter λp=>(p.2 == .local||p.2 == .cell) && !(ps.any λy=>decide (y=p.1))).map (·.1))
noncomputable def fnOf (s:Stmt):Option Fn:=match OM s with
 | some (a,b,sc)=>if a.posonlyargs.isEmpty/\a.vararg.isNone=true/\a.kwarg.isNone=true/\a.defaults.isEmpty then some ⟨(a.args++a.kwonlyargs).map (·.arg),namesOf ((a.args++a.kwonlyargs).map (·.arg)) sc,sc,b,false⟩ else none
 | none=>none
noncomputable def iY (N:List Str)(vs:List D):Env:=vs.map some++List.replicate (N.length-vs.length) none
noncomputable def bc (r:F):R D:=match r with
 | .nx _ S=>.ok .aj S
 | .rt d S=>.ok d S
 | _=>.bad
noncomputable def He:Nat:=24
noncomputable def gL (T:Tab)(cl:Calls)(g:Fn)(vs:List D)(S:ae):R D:=
 if vs.length=g.ps.length then bc (ah (g.body.map ((qX T cl He).s ⟨g.N,g.sc,g.lam⟩)) (iY g.N vs) S) else .bad
structure Prog where
 T:Tab
 fs:List Stmt
 ms:List (Nat×Nat×Stmt)
noncomputable def Prog.fn (P:Prog)(f:Nat):Option Fn:=(P.fs[f]?).bind fnOf
noncomputable def Prog.mt (P:Prog)(c m:Nat):Option Fn:=(P.ms.find? λx=>x.1==c&&x.2.1==m).bind λx=>fnOf x.2.2
noncomputable def calls (P:Prog):Nat->Calls
 | 0=>⟨λ_ _ _=>.bad,λ_ _ _ _=>.bad⟩
 | n+1=>⟨λf vs S=>match P.fn f with | some g=>gL P.T (calls P n) g vs S | none=>.bad,
  λc m vs S=>match P.mt c m with | some g=>gL P.T (calls P n) g vs S | none=>.bad⟩
end RF
namespace L2
open PySem PySem.Spec PyProof.Rows
open RF (D O ae Tab)
mutual
inductive au (M:List Addr) (H:Hp):D->V->Prop
 | aj:au M H .aj .aj
 | bl (b:Bool):au M H (.bl b) (.bl b)
 | int (i:Int):au M H (.int i) (.int i)
 | str (x:Str):au M H (.str x) (.str x)
 | tup {xs:List D} {vs:List V} {a:Addr}:H a=some (.tup vs)->ay M H xs vs->au M H (.tup xs) (.ref a)
 | ref {n:Nat} {a:Addr}:M[n]?=some a->au M H (.ref n) (.ref a)
inductive ay (M:List Addr) (H:Hp):List D->List V->Prop
 | nil:ay M H [] []
 | cons {x:D} {v:V} {xs:List D} {vs:List V}:au M H x v->ay M H xs vs->ay M H (x::xs) (v::vs)
end
structure p4 (M:List Addr)(H:Hp)(M':List Addr)(H':Hp):Prop where
 pre:M <+: M'
 dM:∀b xs,H b=some (.tup xs)->H' b=some (.tup xs)
structure Up (M:List Addr)(H:Hp)(M':List Addr)(H':Hp):Prop extends p4 M H M' H' where
 c6:∀b o u,H b=some (.bR o u)->H' b=some (.bR o u)
theorem Up.refl (M:List Addr)(H:Hp):Up M H M H:=⟨⟨List.prefix_rfl,λ_ _ h=>h⟩,λ_ _ _ h=>h⟩
theorem Up.trans {M M1 M2:List Addr}{H H1 H2:Hp}(a:Up M H M1 H1)(b:Up M1 H1 M2 H2):Up M H M2 H2:=⟨⟨a.pre.trans b.pre,λc xs h=>b.dM c xs (a.dM c xs h)⟩,λc o u h=>b.c6 c o u (a.c6 c o u h)⟩
theorem dU {M M':List Addr}(h:M <+: M'){n:Nat}{a:Addr}(e:M[n]?=some a):M'[n]?=some a:=by obtain⟨t,rfl⟩:=h;rw[List.getElem?_append_left (List.getElem?_eq_some_iff.mp e).1];exact e
section
variable {M M':List Addr}{H H':Hp}
mutual
theorem au.dW {d:D}{v:V}(r:au M H d v)(u:p4 M H M' H'):au M' H' d v:=by
 cases r with
 | aj=>exact .aj
 | bl b=>exact .bl b
 | int i=>exact .int i
 | str x=>exact .str x
 | tup h rs=>exact .tup (u.dM _ _ h) (rs.dW u)
 | ref h=>exact .ref (dU u.pre h)
theorem ay.dW {ds:List D}{vs:List V}(r:ay M H ds vs)(u:p4 M H M' H'):ay M' H' ds vs:=by
 cases r with
 | nil=>exact .nil
 | cons h hs=>exact .cons (h.dW u) (hs.dW u)
end
theorem au.up {d:D}{v:V}(r:au M H d v)(u:Up M H M' H'):au M' H' d v:=r.dW u.top4
theorem ay.up {ds:List D}{vs:List V}(r:ay M H ds vs)(u:Up M H M' H'):ay M' H' ds vs:=r.dW u.top4
theorem ay.length {ds:List D}{vs:List V}(r:ay M H ds vs):ds.length=vs.length:=by
 induction ds generalizing vs with
 | nil=>cases r;rfl
 | cons d ds ih=>cases r with | cons _ h=>simp[ih h]
theorem ay.get {ds:List D}{vs:List V}(r:ay M H ds vs){i:Nat}{d:D}(e:ds[i]?=some d):∃v,vs[i]?=some v/\au M H d v:=by
 induction ds generalizing vs i with
 | nil=>simp at e
 | cons x xs ih=>
  cases r with
  | cons h hs=>
   cases i with
   | zero=>simp at e;subst e;exact⟨_,rfl,h⟩
   | succ i=>exact ih hs (by simpa using e)
theorem ay.get' {ds:List D}{vs:List V}(r:ay M H ds vs){i:Nat}{v:V}(e:vs[i]?=some v):∃d,ds[i]?=some d/\au M H d v:=by
 induction ds generalizing vs i with
 | nil=>cases r;simp at e
 | cons x xs ih=>
  cases r with
  | cons h hs=>
   cases i with
   | zero=>simp at e;subst e;exact⟨_,rfl,h⟩
   | succ i=>exact ih hs (by simpa using e)
theorem ay.append {ds es:List D}{vs ws:List V}(r:ay M H ds vs)(q:ay M H es ws):ay M H (ds++es) (vs++ws):=by
 induction ds generalizing vs with
 | nil=>cases r;exact q
 | cons d ds ih=>cases r with | cons h hs=>exact .cons h (ih hs)
theorem ay.set {ds:List D}{vs:List V}{d:D}{v:V}(r:ay M H ds vs)(q:au M H d v)(i:Nat):ay M H (ds.set i d) (vs.set i v):=by
 induction ds generalizing vs i with
 | nil=>cases r;exact .nil
 | cons x xs ih=>
  cases r with
  | cons h hs=>
   cases i with
   | zero=>exact .cons q hs
   | succ i=>exact .cons h (ih hs i)
theorem ay.drop {ds:List D}{vs:List V}(r:ay M H ds vs)(i:Nat):ay M H (ds.drop i) (vs.drop i):=by
 induction i generalizing ds vs with
 | zero=>exact r
 | succ i ih=>
  cases r with
  | nil=>exact .nil
  | cons _ hs=>exact ih hs
theorem ay.take {ds:List D}{vs:List V}(r:ay M H ds vs)(i:Nat):ay M H (ds.take i) (vs.take i):=by
 induction i generalizing ds vs with
 | zero=>exact .nil
 | succ i ih=>
  cases r with
  | nil=>exact .nil
  | cons h hs=>exact .cons h (ih hs)
theorem ay.gT {ds:List D}{vs:List V}(r:ay M H ds vs):vs.isEmpty=ds.isEmpty:=by cases r<;>rfl
end
def dB:Key->D
 | .inl i=>.int i
 | .inr x=>.str x
def ofKeys (ks:List Key):D:=.tup (ks.map dB)
theorem Ci (M:List Addr)(H:Hp)(k:Key):au M H (dB k) (kV k):=by cases k with | inl i=>exact .int i | inr x=>exact .str x
theorem iV {a b:Key}(e:dB a=dB b):a=b:=by cases a<;>cases b<;>cases e<;>rfl
theorem sk:∀{a b:List Key},a.map dB=b.map dB->a=b
 | [],[],_=>rfl
 | [],_::_,e=>by simp at e
 | _::_,[],e=>by simp at e
 | x::xs,y::ys,e=>by simp only[List.map_cons,List.cons.injEq] at e;rw[iV e.1,sk e.2]
theorem dF {a b:List Key}(e:ofKeys a=ofKeys b):a=b:=sk ((D.tup.injEq _ _).mp e)
theorem jB {d:D}(h:RF.dP d=true):∃k,d=dB k:=by
 cases d with
 | int i=>exact⟨.inl i,rfl⟩
 | str x=>exact⟨.inr x,rfl⟩
 | _=>simp[RF.dP] at h
theorem yr {ds:List D}(h:ds.all RF.dP=true):∃ks:List Key,ds=ks.map dB:=by
 induction ds with
 | nil=>exact⟨[],rfl⟩
 | cons d ds ih=>simp only[List.all_cons,Bool.and_eq_true] at h;obtain⟨k,rfl⟩:=jB h.1;obtain⟨ks,rfl⟩:=ih h.2;exact⟨k::ks,rfl⟩
theorem gX {d:D}(h:RF.aY d=true):∃ks,d=ofKeys ks:=by
 cases d with
 | tup xs=>obtain⟨ks,rfl⟩:=yr (show xs.all RF.dP=true from h);exact⟨ks,rfl⟩
 | _=>simp[RF.aY] at h
theorem mP (k:Key):RF.dP (dB k)=true:=by cases k<;>rfl
theorem vm (ks:List Key):RF.aY (ofKeys ks)=true:=by show (ks.map dB).all RF.dP=true;rw[List.all_map];exact List.all_eq_true.mpr λk _=>mP k
theorem rX {M:List Addr}{H:Hp}{k:Key}{v:V}(r:au M H (dB k) v):v=kV k:=by cases k<;>cases r<;>rfl
theorem lJ {M:List Addr}{H:Hp}{ks:List Key}{vs:List V}(r:ay M H (ks.map dB) vs):vs=ks.map kV:=by
 induction ks generalizing vs with
 | nil=>cases r;rfl
 | cons k ks ih=>cases r with | cons h hs=>rw[rX h,ih hs];rfl
def bZ {κ:Type}(f:κ->D)(M:List Addr)(H:Hp)(p:D×D)(q:κ×V):Prop:=p.1=f q.1/\au M H p.2 q.2
def md (K:Fg)(H:Hp)(a:Addr)(vs:List V):Prop:=(∃o,H a=some (.bR o (.lst vs))) \/
 ∃(o:Obj) (ai:Array Value) (n:Nat),K.lookup a=some o/\o.cls = .type "list"/\o.dict=none/\o.data = .seq ai n/\ai.size<=sizeLine/\Vals vs ai.toList
theorem md.sq {K:Fg}{H:Hp}{a:Addr}{vs:List V}(h:md K H a vs):cm K H a vs:=by
 rcases h with⟨o,h⟩ | h
 .exact .inl (.inr ⟨o,h⟩)
 .exact .inr h
structure bw where
 T:Tab
 c:Nat->Addr
 x:Nat->Addr
 tb:List (Addr×Str)
 ph:bj->Int:=λ_=>0
def ofPair (k:bj):D:=.tup [ofKeys k.1,.int k.2]
def eU (K:Fg)(W:bw)(M:List Addr)(H:Hp)(a:Addr):O->Prop
 | .lst xs=>∃vs,H a=some (.lst vs)/\ay M H xs vs
 | .cq xs=>∃vs,md K H a vs/\ay M H xs vs
 | .aN af=>(∃ks:List (Key×V),H a=some (.dK ks)/\Paired (bZ dB M H) af ks)\/∃ts:List (List Key×V),H a=some (.dT ts)/\Paired (bZ ofKeys M H) af ts
 | .c7 af=>∃(o:Obj) (ts:List (List Key×V)),H a=some (.bR o (.dT ts))/\Paired (bZ ofKeys M H) af ts
 | .jx af=>∃(xs:List (bj×Addr×Value)) (ps:List (bj×V)),H a=some (PD W.ph a xs)/\KP H ps xs/\Paired (bZ ofPair M H) af ps
 | .obj c fs=>∃dx gs,H a=some (.ins (W.c c) dx gs)/\c<W.T.gf.length/\Paired (λ(p:Nat×D) (q:Str×V)=>(W.T.cJ[p.1]?=some q.1/\W.T.plain c p.1=true)/\au M H p.2 q.2) fs gs
def fL:Option O->Bool
 | some (.cq _)=>true
 | _=>false
structure Cn (K:Fg)(W:bw)(M:List Addr)(S:ae)(H:Hp):Prop where
 len:M.length=S.length
 sM:W.T.cJ.Nodup
 sep:∀(i j:Nat) (a:Addr),M[i]?=some a->M[j]?=some a->fL S[i]?=false->fL S[j]?=false->i=j
 at_:∀(i:Nat) (o:O) (a:Addr),S[i]?=some o->M[i]?=some a->eU K W M H a o
 gq:∀p∈W.tb,rl H p.1 p.2
theorem FT {K:Fg}{W:bw}{M:List Addr}{H H':Hp}{a:Addr}{o:O}(h:eU K W M H a o)(hr:fL (some o)=false)(t:∀p∈W.tb,rl H p.1 p.2)(e:Hc a H H'):∀p∈W.tb,rl H' p.1 p.2:=λp hp=>by
 cases o with
 | lst xs=>obtain⟨vs,h1,_⟩:=h;exact(t p hp).grown e h1 nofun nofun
 | cq xs=>simp[fL] at hr
 | aN af=>
  rcases h with⟨_,h1,_⟩|⟨_,h1,_⟩
  .exact(t p hp).grown e h1 nofun nofun
  .exact(t p hp).grown e h1 nofun nofun
 | c7 af=>obtain⟨_,_,h1,_⟩:=h;exact(t p hp).grown e h1 nofun nofun
 | jx af=>obtain⟨_,_,h1,_⟩:=h;exact(t p hp).grown e h1 nofun (λc=>IH _ _ _ _ c)
 | obj c fs=>obtain⟨_,_,h1,_⟩:=h;exact(t p hp).grown e h1 nofun nofun
section
variable {K:Fg}{W:bw}{M M':List Addr}{S:ae}{H H':Hp}
theorem bZ.dW {κ:Type}{f:κ->D}{p:D×D}{q:κ×V}(h:bZ f M H p q)(u:p4 M H M' H'):bZ f M' H' p q:=⟨h.1,h.2.dW u⟩
theorem Paired.dW {κ:Type}{f:κ->D}{ps:List (D×D)}{qs:List (κ×V)}(h:Paired (bZ f M H) ps qs)(u:p4 M H M' H'):Paired (bZ f M' H') ps qs:=Paired.nN h λ_ _ z=>z.dW u
theorem Paired.up {κ:Type}{f:κ->D}{ps:List (D×D)}{qs:List (κ×V)}(h:Paired (bZ f M H) ps qs)(u:Up M H M' H'):Paired (bZ f M' H') ps qs:=Paired.dW h u.top4
theorem eU.dW {a:Addr}{o:O}(h:eU K W M H a o)(u:p4 M H M' H')(e:∀u,H a=some u->H' a=some u):eU K W M' H' a o:=by
 cases o with
 | lst xs=>obtain⟨vs,h1,h2⟩:=h;exact⟨vs,e _ h1,h2.dW u⟩
 | cq xs=>
  obtain⟨vs,h1,h2⟩:=h;refine⟨vs,?_,h2.dW u⟩;rcases h1 with⟨o,h1⟩ | h1
  .exact .inl ⟨o,e _ h1⟩
  .exact .inr h1
 | aN af=>
  rcases h with⟨ks,h1,h2⟩|⟨ts,h1,h2⟩
  .exact .inl ⟨ks,e _ h1,Paired.dW h2 u⟩
  .exact .inr ⟨ts,e _ h1,Paired.dW h2 u⟩
 | c7 af=>obtain⟨ob,ts,h1,h2⟩:=h;exact⟨ob,ts,e _ h1,Paired.dW h2 u⟩
 | jx af=>obtain⟨xs,ps,h1,h2,h3⟩:=h;exact⟨xs,ps,e _ h1,h2.keeps u.dM,Paired.dW h3 u⟩
 | obj c fs=>obtain⟨dx,gs,h1,hc,h2⟩:=h;exact⟨dx,gs,e _ h1,hc,Paired.nN h2 λ_ _ z=>⟨z.1,z.2.dW u⟩⟩
theorem eU.up {a:Addr}{o:O}(h:eU K W M H a o)(u:Up M H M' H')(e:∀u,H a=some u->H' a=some u):eU K W M' H' a o:=h.dW u.top4 e
theorem Cn.obj (c:Cn K W M S H){i:Nat}{a:Addr}(h:M[i]?=some a):∃o,S[i]?=some o/\eU K W M H a o:=by
 have hi:i<S.length:=by rw[<-c.len];exact(List.getElem?_eq_some_iff.mp h).1
 exact⟨S[i],by simp[hi],c.at_ i _ a (by simp[hi]) h⟩
theorem bP {p:Addr}{o:HO}(hp:H p=none):Up M H M (upd H p o):=⟨⟨List.prefix_rfl,λb xs h=>by rw[ax (bF h hp)];exact h⟩,λb ob u h=>by rw[ax (bF h hp)];exact h⟩
theorem Cn.fresh (c:Cn K W M S H){p:Addr}{o:HO}(hp:H p=none):Cn K W M S (upd H p o):=
 ⟨c.len,c.sM,c.sep,λi ob a h1 h2=>(c.at_ i ob a h1 h2).up (bP hp) λu h=>by rw[ax (bF h hp)];exact h,λq hq=>(c.gq q hq).same λb o h=>by rw[ax (bF h hp)];exact h⟩
theorem i6 {p:Addr}{o:HO}(hp:H p=none):Up M H (M++[p]) (upd H p o):=⟨⟨List.prefix_append _ _,(bP (M:=M) hp).dM⟩,(bP (M:=M) hp).c6⟩
theorem Cn.new (c:Cn K W M S H){p:Addr}{ho:HO}{o:O}(hp:H p=none)(hr:fL (some o)=false)(h:eU K W (M++[p]) (upd H p ho) p o):Cn K W (M++[p]) (S++[o]) (upd H p ho):=by
 have old:∀i a,M[i]?=some a->fL S[i]?=false->a≠p:=λi a e nr z=>by
  obtain⟨ob,h1,h2⟩:=c.obj e;subst z;rw[h1] at nr;cases ob with
  | lst xs=>obtain⟨_,h,_⟩:=h2;rw[hp] at h;cases h
  | cq xs=>simp[fL] at nr
  | aN af=>rcases h2 with⟨_,h,_⟩|⟨_,h,_⟩<;>(rw[hp] at h;cases h)
  | c7 af=>obtain⟨_,_,h,_⟩:=h2;rw[hp] at h;cases h
  | jx af=>obtain⟨_,_,h,_⟩:=h2;rw[hp] at h;cases h
  | obj cc fs=>obtain⟨_,_,h,_⟩:=h2;rw[hp] at h;cases h
 refine⟨by simp[c.len],c.sM,λi j a h1 h2 r1 r2=>?_,λi ob a h1 h2=>?_,λq hq=>(c.gq q hq).same λb o h=>by rw[ax (bF h hp)];exact h⟩
 .rcases Nat.lt_or_ge i M.length with hi | hi
  .rw[List.getElem?_append_left hi] at h1;rw[List.getElem?_append_left (by rw[<-c.len];exact hi)] at r1;rcases Nat.lt_or_ge j M.length with hj | hj
   .rw[List.getElem?_append_left hj] at h2;rw[List.getElem?_append_left (by rw[<-c.len];exact hj)] at r2;exact c.sep i j a h1 h2 r1 r2
   .rw[List.getElem?_append_right hj] at h2;have:a=p:=by
     cases e:j-M.length with
     | zero=>rw[e] at h2;simpa using h2.symm
     | succ k=>rw[e] at h2;simp at h2
    exact absurd this (old i a h1 r1)
  .rw[List.getElem?_append_right hi] at h1;have ha:a=p/\i=M.length:=by
    cases e:i-M.length with
    | zero=>rw[e] at h1;exact⟨by simpa using h1.symm,by omega⟩
    | succ k=>rw[e] at h1;simp at h1
   rcases Nat.lt_or_ge j M.length with hj | hj
   .rw[List.getElem?_append_left hj] at h2;rw[List.getElem?_append_left (by rw[<-c.len];exact hj)] at r2;exact absurd ha.1 (old j a h2 r2)
   .rw[List.getElem?_append_right hj] at h2;have:j=M.length:=by
     cases e:j-M.length with
     | zero=>omega
     | succ k=>rw[e] at h2;simp at h2
    rw[ha.2,this]
 .rcases Nat.lt_or_ge i M.length with hi | hi
  .rw[List.getElem?_append_left hi] at h2;rw[List.getElem?_append_left (by rw[<-c.len];exact hi)] at h1;exact(c.at_ i ob a h1 h2).up (i6 hp) λu q=>by rw[ax (bF q hp)];exact q
  .rw[List.getElem?_append_right hi] at h2;rw[List.getElem?_append_right (by rw[<-c.len];exact hi)] at h1;cases e:i-M.length with
   | zero=>
    rw[e] at h2;rw[<-c.len,e] at h1;have h1:o=ob:=by simpa using h1
    have h2:p=a:=by simpa using h2
    subst h1 h2;exact h
   | succ k=>rw[e] at h2;simp at h2
def vB (o:Option HO):Prop:=∀xs,o≠some (.tup xs)
def G7:HO->Bool
 | .tup _=>true
 | .bR _ _=>true
 | _=>false
def c9 (o:Option HO):Prop:=∀u,o=some u->G7 u=false
theorem d7 {a:Addr}{o:HO}(e:H a=some o)(h:G7 o=false):c9 (H a):=λu z=>by rw[e] at z;cases z;exact h
theorem c9.tup {o:Option HO}(h:c9 o):vB o:=λxs z=>by cases h _ z
theorem jM {a:Addr}{ho:HO}(hn:vB (H a)):p4 M H M (upd H a ho):=⟨List.prefix_rfl,λb xs h=>by rw[ax λz=>by subst z;exact hn xs h];exact h⟩
theorem aW {a:Addr}{ho:HO}(hn:c9 (H a)):Up M H M (upd H a ho):=⟨jM hn.tup,λb o u h=>by rw[ax λz=>by subst z;cases hn _ h];exact h⟩
theorem Cn.Me (c:Cn K W M S H){i:Nat}{a:Addr}{o o':O}{ho':HO}(hS:S[i]?=some o)(hM:M[i]?=some a)(hr:fL (some o)=false)(lU:fL (some o')=false)(hn:vB (H a))(hf:∀ob vs,H a≠some (.bR ob (.lst vs)))
 (h:eU K W M (upd H a ho') a o'):Cn K W M (S.set i o') (upd H a ho'):=by
 have hi:i<S.length:=(List.getElem?_eq_some_iff.mp hS).1;refine⟨by simp[c.len],c.sM,λj k b h1 h2 r1 r2=>c.sep j k b h1 h2 ?_ ?_,λj ob b h1 h2=>?_,FT (c.at_ i o a hS hM) hr c.gq λb u z h=>by rw[ax z];exact h⟩
 .by_cases e:j=i
  .subst e;rw[hS];exact hr
  .rwa [List.getElem?_set_ne (Ne.symm e)] at r1
 .by_cases e:k=i
  .subst e;rw[hS];exact hr
  .rwa [List.getElem?_set_ne (Ne.symm e)] at r2
 .by_cases e:j=i
  .subst e;rw[List.getElem?_set_self hi] at h1;rw[hM] at h2;cases h1;cases h2;exact h
  .rw[List.getElem?_set_ne (Ne.symm e)] at h1;have q:=c.at_ j ob b h1 h2
   by_cases z:b=a
   .subst z;cases ob with
    | cq xs=>
     obtain⟨vs,g1,g2⟩:=q;rcases g1 with⟨o1,g1⟩ | g1
     .exact absurd g1 (hf o1 vs)
     .exact⟨vs,.inr g1,g2.dW (jM hn)⟩
    | _=>exact absurd (c.sep j i b h2 hM (by rw[h1];rfl) (by rw[hS];exact hr)) e
   .exact q.dW (jM hn) λu g=>by rw[ax z];exact g
theorem Cn.put (c:Cn K W M S H){i:Nat}{a:Addr}{o o':O}{ho':HO}(hS:S[i]?=some o)(hM:M[i]?=some a)(hr:fL (some o)=false)(lU:fL (some o')=false)(hn:c9 (H a))
 (h:eU K W M (upd H a ho') a o'):Cn K W M (S.set i o') (upd H a ho'):=c.Me hS hM hr lU hn.tup (λob vs z=>by cases hn _ z) h
def kT (M:List Addr)(H:Hp)(ρ:RF.Env)(σ:St):Prop:=∀(i:Nat) (d:D),ρ[i]?=some (some d)->∃v,σ[i]?=some (some v)/\au M H d v
theorem kT.up {ρ:RF.Env}{σ:St}(h:kT M H ρ σ)(u:Up M H M' H'):kT M' H' ρ σ:=λi d e=>let ⟨v,a,b⟩:=h i d e;⟨v,a,b.up u⟩
theorem kT.set {ρ:RF.Env}{σ:St}{i:Nat}{d:D}{v:V}(h:kT M H ρ σ)(r:au M H d v)(hl:ρ.length<=σ.length):kT M H (ρ.set i (some d)) (σ.set i (some v)):=λj x e=>by
 by_cases z:i=j
 .subst z;have hi:i<ρ.length:=by have:=(List.getElem?_eq_some_iff.mp e).1;simpa using this
  rw[List.getElem?_set_self hi] at e;cases e;exact⟨v,by rw[List.getElem?_set_self (by omega)],r⟩
 .rw[List.getElem?_set_ne z] at e;obtain⟨u,a,b⟩:=h j x e;exact⟨u,by rw[List.getElem?_set_ne z];exact a,b⟩
end
end L2
namespace L2
open PySem PySem.Spec PyProof.Rows
open RF (D O ae Tab)
structure Sm (K:Fg)(W:bw)(M:List Addr)(S:ae)(H:Hp)(ρ:RF.Env)(σ:St):Prop where
 con:Cn K W M S H
 env:kT M H ρ σ
 len:ρ.length=σ.length
section
variable {K:Fg}{W:bw}{M M1 M2:List Addr}{S S1 S2:ae}{H H1 H2:Hp}{ρ:RF.Env}{σ:St}{E:XK}
theorem Sm.to (s:Sm K W M S H ρ σ)(c:Cn K W M1 S1 H1)(u:Up M H M1 H1):Sm K W M1 S1 H1 ρ σ:=⟨c,s.env.up u,s.len⟩
def aw {α β:Type}(K:Fg)(W:bw)(rel:List Addr->Hp->α->β->Prop)(E:XK)(M:List Addr)(H:Hp)(r:RF.R α)(Q:β->Hp->Prop):Prop:=match r with
 | .ok a S'=>∀M' H' b,Cn K W M' S' H'->Up M H M' H'->rel M' H' a b->Q b H'
 | .bad=>False
theorem aw.up {α β:Type}{rel:List Addr->Hp->α->β->Prop}{r:RF.R α}{Q:β->Hp->Prop}(h:aw K W rel E M H r Q)(u:Up M H M1 H1):aw K W rel E M1 H1 r Q:=by
 cases r with
 | ok a S'=>exact λM' H' b c u'=>h M' H' b c (u.trans u')
 | bad=>exact h
theorem aw.now {α β:Type}{rel:List Addr->Hp->α->β->Prop}{a:α}{b:β}{Q:β->Hp->Prop}(h:aw K W rel E M H (.ok a S) Q)(c:Cn K W M S H)(r:rel M H a b):Q b H:=h M H b c (Up.refl _ _) r
theorem aw.at_ {α β:Type}{rel:List Addr->Hp->α->β->Prop}{a:α}{b:β}{Q:β->Hp->Prop}(h:aw K W rel E M H (.ok a S1) Q)(c:Cn K W M1 S1 H1)(u:Up M H M1 H1)(r:rel M1 H1 a b):Q b H1:=h M1 H1 b c u r
def tG {α β:Type}(K:Fg)(W:bw)(rel:List Addr->Hp->α->β->Prop)(E:XK)(c:RF.C α):St->Hp->(β->Hp->Prop)->Prop:=λσ H Q=>∃M ρ S,Sm K W M S H ρ σ/\aw K W rel E M H (c ρ S) Q
theorem vV {α β γ δ:Type}{rel:List Addr->Hp->α->β->Prop}{x8:List Addr->Hp->γ->δ->Prop}{r:RF.R α}{g:α->ae->RF.R γ}{Q:δ->Hp->Prop}{Q1:β->Hp->Prop}
 (h:aw K W x8 E M H (r.bind g) Q) (k:∀M1 H1 a b S1,Cn K W M1 S1 H1->Up M H M1 H1->rel M1 H1 a b->aw K W x8 E M1 H1 (g a S1) Q->Q1 b H1):aw K W rel E M H r Q1:=by
 cases r with
 | ok a S1=>exact λM1 H1 b c1 u1 r1=>k M1 H1 a b S1 c1 u1 r1 (aw.up h u1)
 | bad=>exact h
theorem bH {α β γ δ:Type}{rel:List Addr->Hp->α->β->Prop}{x8:List Addr->Hp->γ->δ->Prop}{c:RF.C α}{g:α->ae->RF.R γ}{Q:δ->Hp->Prop}{Q1:β->Hp->Prop}(s:Sm K W M S H ρ σ)
 (h:aw K W x8 E M H ((c ρ S).bind g) Q) (k:∀M1 H1 a b S1,Sm K W M1 S1 H1 ρ σ->Up M H M1 H1->rel M1 H1 a b->aw K W x8 E M1 H1 (g a S1) Q->Q1 b H1):tG K W rel E c σ H Q1:=
 ⟨M,ρ,S,s,vV h λM1 H1 a b S1 c1 u1 r1 g1=>k M1 H1 a b S1 (s.to c1 u1) u1 r1 g1⟩
theorem aw.guard {α β:Type}{rel:List Addr->Hp->α->β->Prop}{b:Bool}{r:RF.R α}{Q:β->Hp->Prop}(h:aw K W rel E M H (RF.aE b r) Q):b=true/\aw K W rel E M H r Q:=by
 unfold RF.aE at h;cases b with
 | true=>exact⟨rfl,h⟩
 | false=>exact h.elim
end
abbrev tE (K:Fg)(W:bw)(E:XK)(c:RF.C D):TE:=tG K W au E c
abbrev tT (K:Fg)(W:bw)(E:XK)(c:RF.C Bool):TT:=tG K W (λ_ _ a b=>a=b) E c
abbrev tA (K:Fg)(W:bw)(E:XK)(c:RF.C (List D)):TA:=tG K W ay E c
theorem PE.imp {X:Cx}{e:Expr}{t t':TE}(h:PE X e t)(i:∀σ H Q,t' σ H Q->t σ H Q):PE X e t':=λpins s σ H Q I q=>h pins s σ H Q I (i σ H Q q)
theorem PT.imp {X:Cx}{e:Expr}{t t':TT}(h:PT X e t)(i:∀σ H Q,t' σ H Q->t σ H Q):PT X e t':=λpins s σ H Q I q=>h pins s σ H Q I (i σ H Q q)
theorem PW.imp {X:Cx}{e:Expr}{t t':TT}(h:PW X e t)(i:∀σ H Q,t' σ H Q->t σ H Q):PW X e t':=λwh pins s σ H Q I q=>h wh pins s σ H Q I (i σ H Q q)
theorem PA.imp {X:Cx}{es:List Expr}{t t':TA}(h:PA X es t)(i:∀σ H Q,t' σ H Q->t σ H Q):PA X es t':=λpos pins s σ H Q I q=>h pos pins s σ H Q I (i σ H Q q)
theorem PS.imp {X:Cx}{st:Stmt}{t t':TS}(h:PS X st t)(i:∀D σ H,t' D σ H->t D σ H):PS X st t':=λpins s σ H D I q=>h pins s σ H D I (i D σ H q)
theorem iC.imp {X:Cx}{st:List Stmt}{t t':TS}(h:iC X st t)(i:∀D σ H,t' D σ H->t D σ H):iC X st t':=λpins s σ H D I q=>h pins s σ H D I (i D σ H q)
theorem rp {K:Fg}{W:bw}{α β:Type}{rel:List Addr->Hp->α->β->Prop}{E:XK}{σ:St}{H:Hp}{Q:β->Hp->Prop}(h:tG K W rel E RF.a7 σ H Q):False:=by obtain⟨M,ρ,S,s,g⟩:=h;exact g
theorem bu {X:Cx}{K:Fg}{W:bw}{e:Expr}{E:XK}:PE X e (tE K W E RF.a7):=λ_ _ _ _ _ _ h=>(rp h).elim
theorem gB {X:Cx}{K:Fg}{W:bw}{e:Expr}{E:XK}:PT X e (tT K W E RF.a7):=λ_ _ _ _ _ _ h=>(rp h).elim
section
variable {X:Cx}{W:bw}{E:XK}{a b c:Expr}{ca cb cc:RF.C D}{pos:Pos}
def eQ (X:Cx)(W:bw)(E:XK)(f:D->D->ae->RF.R D)(r:R2):Prop:=∀(M:List Addr) (S:ae) (H:Hp) (x y:D) (u v:V) (Q:VK),Cn X.K W M S H->au M H x u->au M H y v->aw X.K W au E M H (f x y S) Q->r u v H Q
theorem GI {f:D->D->ae->RF.R D}{r:R2}(hr:eQ X W E f r){σ:St}{H:Hp}{Q:VK}(h:tE X.K W E (RF.A2 f ca cb) σ H Q):C8 r (tE X.K W E ca) (tE X.K W E cb) σ H Q:=by obtain⟨M,ρ,S,s,g⟩:=h;exact bH s g λM1 H1 x u S1 s1 u1 r1 g1=>bH s1 g1 λM2 H2 y v S2 s2 u2 r2 g2=>hr M2 S2 H2 x y u v Q s2.con (r1.up u2) r2 g2
theorem Mr {op:Operator}{r:R2}(ho:bS X (binaryOp op) r)(hr:eQ X W E (RF.fS op) r)(ha:PE X a (tE X.K W E ca))(hb:PE X b (tE X.K W E cb)):PE X (.BinOp a op b pos) (tE X.K W E (RF.bD op ca cb)):=
 (NW ho ha hb).imp λ_ _ _ h=>GI hr h
theorem Ka {op:CmpOp}{r:R2}(ho:bS X (compareOp op) r)(hr:eQ X W E (RF.bg op) r)(ha:PE X a (tE X.K W E ca))(hb:PE X b (tE X.K W E cb))(hm:behindInMarks op b=false):PE X (.Compare a [op] [b] pos) (tE X.K W E (RF.aB op ca cb)):=
 (Jc ho ha hb hm).imp λ_ _ _ h=>GI hr h
theorem oW {α β:Type}{rel:List Addr->Hp->α->β->Prop}{K:Fg}{M:List Addr}{H:Hp}{d:D}{S:ae}{g:Bool->ae->RF.R α}{Q:β->Hp->Prop}(h:aw K W rel E M H ((RF.boolOf d S).bind g) Q):∃b,d = .bl b/\aw K W rel E M H (g b S) Q:=by
 cases d with
 | bl b=>exact⟨b,rfl,h⟩
 | _=>exact h.elim
theorem As {op:CmpOp}{r:R2}(ho:bS X (compareOp op) r)(hr:eQ X W E (RF.bg op) r)(ha:PE X a (tE X.K W E ca))(hb:PE X b (tE X.K W E cb))(hm:behindInMarks op b=false):PT X (.Compare a [op] [b] pos) (tT X.K W E (RF.av (RF.aB op ca cb))):=by
 refine(IA ho ha hb hm).imp λσ H Q h=>?_;obtain⟨M,ρ,S,s,g⟩:=h;refine GI hr (Q:=λx H'=>∃k,x = .bl k/\Q k H') ⟨M,ρ,S,s,?_⟩;refine vV g λM1 H1 d v S1 c1 u1 r1 g1=>?_;cases d with
 | bl k=>cases r1;exact⟨k,rfl,aw.now g1 c1 rfl⟩
 | _=>exact g1.elim
theorem wZ {o1 o2:CmpOp}{r1 r2:R2}(h1:eQ X W E (RF.bg o1) r1)(h2:eQ X W E (RF.bg o2) r2){σ:St}{H:Hp}{Q:VK}(h:tE X.K W E (RF.iy o1 o2 ca cb cc) σ H Q):wH r1 r2 (tE X.K W E ca) (tE X.K W E cb) (tE X.K W E cc) σ H Q:=by
 obtain⟨M,ρ,S,s,g⟩:=h;refine bH s g λM1 H1 x u S1 s1 u1 rx g1=>bH s1 g1 λM2 H2 y v S2 s2 u2 ry g2=>?_;refine h1 M2 S2 H2 x y u v _ s2.con (rx.up u2) ry (vV g2 λM3 H3 d w S3 c3 u3 rd g3=>?_);obtain⟨k,rfl,g3⟩:=oW g3;cases rd;refine⟨k,rfl,?_⟩;have s3:=s2.to c3 u3;cases k with
 | false=>exact qE (aw.now g3 c3 (.bl false))
 | true=>exact qj (bH s3 g3 λM4 H4 z w' S4 s4 u4 rz g4=>h2 M4 S4 H4 y z v w' Q s4.con ((ry.up u3).up u4) rz g4)
theorem nU {o1 o2:CmpOp}{b c:Expr}(hc:RF.dI c=true):lastMarks [o1,o2] [b,c]=false:=by cases c<;>first | rfl | (simp[RF.dI] at hc)
theorem zy {op:CmpOp}{b:Expr}(h:RF.dI b=true):behindInMarks op b=false:=by cases b<;>first | rfl | (simp[RF.dI] at h)
theorem Ez {o1 o2:CmpOp}{r1 r2:R2}(q1:bS X (compareOp o1) r1)(q2:bS X (compareOp o2) r2)(h1:eQ X W E (RF.bg o1) r1)(h2:eQ X W E (RF.bg o2) r2)(ha:PE X a (tE X.K W E ca))(hb:PE X b (tE X.K W E cb))(hc:PE X c (tE X.K W E cc))(hs:RF.dI c=true):
 PE X (.Compare a [o1,o2] [b,c] pos) (tE X.K W E (RF.iy o1 o2 ca cb cc)):=
 (Gq q1 q2 ha hb hc (nU hs)).imp λ_ _ _ h=>wZ h1 h2 h
theorem xO {o1 o2:CmpOp}{r1 r2:R2}(q1:bS X (compareOp o1) r1)(q2:bS X (compareOp o2) r2)(h1:eQ X W E (RF.bg o1) r1)(h2:eQ X W E (RF.bg o2) r2)(ha:PE X a (tE X.K W E ca))(hb:PE X b (tE X.K W E cb))(hc:PE X c (tE X.K W E cc))(hs:RF.dI c=true):
 PT X (.Compare a [o1,o2] [b,c] pos) (tT X.K W E (RF.av (RF.iy o1 o2 ca cb cc))):=by
 refine(Fc q1 q2 ha hb hc (nU hs)).imp λσ H Q h=>?_;obtain⟨M,ρ,S,s,g⟩:=h;refine wZ h1 h2 (Q:=λx H'=>∃k,x = .bl k/\Q k H') ⟨M,ρ,S,s,?_⟩;refine vV g λM1 H1 d v S1 c1 u1 r1 g1=>?_;cases d with
 | bl k=>cases r1;exact⟨k,rfl,aw.now g1 c1 rfl⟩
 | _=>exact g1.elim
end
end L2
namespace L2
open PySem PySem.Spec PyProof.Rows
open RF (D O ae Tab)
section
variable {X:Cx}{W:bw}{E:XK}
theorem cA {M:List Addr}{H:Hp}{xs:List D}{v:V}(r:au M H (.tup xs) v):∃a vs,v = .ref a/\H a=some (.tup vs)/\ay M H xs vs:=by cases r with | tup h hs=>exact⟨_,_,rfl,h,hs⟩
theorem bC {M:List Addr}{H:Hp}{n:Nat}{v:V}(r:au M H (.ref n) v):∃a,v = .ref a/\M[n]?=some a:=by cases r with | ref h=>exact⟨_,rfl,h⟩
theorem n8 {M:List Addr}{p:Addr}{H H':Hp}{S:ae}{K:Fg}(c:Cn K W M S H):au (M++[p]) (H') (.ref S.length) (.ref p):=.ref (by rw[<-c.len];simp)
theorem Cn.PL {K:Fg}{M:List Addr}{S:ae}{H:Hp}(c:Cn K W M S H){p:Addr}{xs:List D}{vs:List V}(hp:H p=none)(r:ay M H xs vs):Cn K W (M++[p]) (S++[.lst xs]) (upd H p (.lst vs)):=
 c.new hp rfl ⟨vs,aA,r.up (i6 hp)⟩
theorem iP {K:Fg}{M:List Addr}{S:ae}{H:Hp}{Q:VK}{xs:List D}{vs:List V}(g:aw K W au E M H (RF.fI (.lst xs) S) Q)(c:Cn K W M S H)(r:ay M H xs vs):∀p,H p=none->Q (.ref p) (upd H p (.lst vs)):=λp hp=>
 aw.at_ g (c.PL hp r) (i6 hp) (n8 c)
def Hs (K:Fg):R2:=λx y H Q=>pT (λi j=>.int (i+j)) x y H Q\/Hv K x y H Q\/LI x y H Q
theorem Ia:bS X (binaryOp .Add) (Hs X.K):=Lq.or (JH.or ME)
theorem Cn.lst {K:Fg}{M:List Addr}{S:ae}{H:Hp}(c:Cn K W M S H){n:Nat}{a:Addr}{xs:List D}(h:S[n]?=some (.lst xs))(e:M[n]?=some a):∃vs,H a=some (.lst vs)/\ay M H xs vs:=c.at_ n _ a h e
theorem Cn.items {K:Fg}{M:List Addr}{S:ae}{H:Hp}(c:Cn K W M S H){n:Nat}{a:Addr}{xs:List D}(h:RF.itemsOf S (.ref n)=some xs)(e:M[n]?=some a):∃vs,cm K H a vs/\ay M H xs vs:=by
 unfold RF.itemsOf at h;dsimp only at h;split at h
 .rename_i ys hS;cases h;obtain⟨vs,h1,h2⟩:=c.lst hS e;exact⟨vs,cm.of h1,h2⟩
 .rename_i ys hS;cases h;obtain⟨vs,h1,h2⟩:=c.at_ n _ a hS e;exact⟨vs,h1.sq,h2⟩
 .cases h
theorem K3:eQ X W E (RF.fS .Add) (Hs X.K):=by
 intro M S H x y u v Q c rx ry g
 change aw X.K W au E M H (RF.xy x y S) Q at g
 unfold RF.xy at g;split at g
 .cases rx;cases ry;exact .inl ⟨_,_,rfl,rfl,aw.now g c (.int _)⟩
 .rename_i xs ys;obtain⟨a,vs,rfl,ha,hx⟩:=cA rx;obtain⟨b,ws,rfl,hb,hy⟩:=cA ry;obtain⟨hz,g⟩:=aw.guard g;have hz:xs.length+ys.length<=sizeLine:=of_decide_eq_true hz;refine .inr (.inl ⟨a,b,vs,ws,rfl,rfl,cy.of ha,cy.of hb,by rw[<-hx.length,<-hy.length];exact hz,λe=>?_,λ_ e=>?_,λ_ _ p hp=>?_⟩)
  .subst e;cases hx;exact aw.now g c (.tup hb hy)
  .subst e;cases hy;rw[List.append_nil] at g;exact aw.now g c (.tup ha hx)
  .exact aw.at_ g (c.fresh hp) (bP hp) (.tup aA ((hx.append hy).up (bP hp)))
 .rename_i m n;split at g
  .rename_i xs ys h1 h2;obtain⟨a,rfl,ea⟩:=bC rx;obtain⟨b,rfl,eb⟩:=bC ry;obtain⟨vs,ha,hx⟩:=c.lst h1 ea;obtain⟨ws,hb,hy⟩:=c.lst h2 eb;obtain⟨hz,g⟩:=aw.guard g;have hz:xs.length+ys.length<=sizeLine:=of_decide_eq_true hz;exact .inr (.inr ⟨a,b,vs,ws,rfl,rfl,ha,hb,by rw[<-hx.length,<-hy.length];exact hz,iP g c (hx.append hy)⟩)
  .exact g.elim
 .exact g.elim
theorem vt {z:Int}{m:Nat}(h:z.natAbs<2 ^ m):Builtin.Int.intBits z<=m:=(PySem.intBits_le_iff (x:=z) (m:=m)).mpr h
theorem mulOk_of {a b:Int}(h:RF.hX a b=true):IntMulOk a b:=by
 unfold RF.hX at h;simp only[Bool.or_eq_true,Bool.and_eq_true,decide_eq_true_eq] at h;rcases h with (h | h) | ⟨h1,h2⟩
 .exact .of_left (vt h)
 .exact .of_right (vt h)
 .exact PySem.IntMulOk.of_bits (Nat.le_trans (vt h1) (by decide)) (Nat.le_trans (vt h2) (by decide))
theorem rL {op:Operator}{C:Int->Int->Prop}{f:Int->Int->Int}(h:∀(x y:D) (S:ae),RF.fS op x y S = .bad\/∃i j,x = .int i/\y = .int j/\C i j/\RF.fS op x y S = .ok (.int (f i j)) S):eQ X W E (RF.fS op) (rI C λi j=>.int (f i j)):=by
 intro M S H x y u v Q c rx ry g;rcases h x y S with e | ⟨i,j,rfl,rfl,hc,e⟩
 .rw[e] at g;exact g.elim
 .rw[e] at g;cases rx;cases ry;exact⟨i,j,rfl,rfl,hc,aw.now g c (.int _)⟩
def yes:Int->Int->Prop:=λ_ _=>True
theorem IE:bS X (binaryOp .Sub) (rI yes λi j=>.int (i-j)):=λpins s σ H x y v u Q I rx ry ⟨i,j,e1,e2,_,q⟩=>Kx pins s σ H x y v u Q I rx ry ⟨i,j,e1,e2,q⟩
theorem LA:eQ X W E (RF.fS .Sub) (rI yes λi j=>.int (i-j)):=rL λx y S=>by cases x<;>cases y<;>first | exact .inl rfl | exact .inr ⟨_,_,rfl,rfl,trivial,rfl⟩
def Hx:R2:=λx y H Q=>rI IntMulOk (λi j=>.int (i*j)) x y H Q\/K7 x y H Q
theorem Jp:bS X (binaryOp .Mult) Hx:=Il.or Mc
theorem ay.flat {M:List Addr}{H:Hp}{xs:List D}{vs:List V}(h:ay M H xs vs):∀k:Nat,ay M H (List.replicate k xs).flatten (List.replicate k vs).flatten
 | 0=>.nil
 | k+1=>by rw[List.replicate_succ,List.replicate_succ,List.flatten_cons,List.flatten_cons];exact h.append (ay.flat h k)
theorem Mn:eQ X W E (RF.fS .Mult) Hx:=by
 intro M S H x y u v Q c rx ry g
 change aw X.K W au E M H (RF.wA x y S) Q at g
 unfold RF.wA at g;split at g
 .cases rx;cases ry;obtain⟨hz,g⟩:=aw.guard g;exact .inl ⟨_,_,rfl,rfl,mulOk_of hz,aw.now g c (.int _)⟩
 .rename_i l k;split at g
  .rename_i xs h1;obtain⟨a,rfl,ea⟩:=bC rx;cases ry;obtain⟨vs,ha,hx⟩:=c.lst h1 ea;obtain⟨hz,g⟩:=aw.guard g;simp only[Bool.and_eq_true,decide_eq_true_eq] at hz;obtain⟨⟨z1,z2⟩,z3⟩:=hz;exact .inr ⟨a,k,vs,rfl,rfl,ha,z1,z2,by rw[<-hx.length];exact z3,iP g c (hx.flat _)⟩
  .exact g.elim
 .exact g.elim
theorem Ig:eQ X W E (RF.fS .FloorDiv) (rI GX λi j=>.int (i / j)):=rL λx y S=>by
 cases x<;>cases y<;>first | exact .inl rfl | skip
 rename_i i j;cases e:(decide (0<j)&&decide (j<2 ^ 250)) with
 | false=>left;show RF.aE _ _=_;rw[e];rfl
 | true=>
  refine .inr ⟨i,j,rfl,rfl,?_,by show RF.aE _ _=_;rw[e];rfl⟩;simp only[Bool.and_eq_true,decide_eq_true_eq] at e;refine⟨e.1,?_⟩;have h2:j.natAbs<2 ^ 250:=by omega
  exact Nat.lt_of_lt_of_le ((Nat.log2_lt (by omega)).mpr h2) (by decide)
theorem LJ:eQ X W E (RF.fS .Mod) (rI (λ_ j=>0<j) λi j=>.int (i%j)):=rL λx y S=>by
 cases x<;>cases y<;>first | exact .inl rfl | skip
 rename_i i j;cases e:decide (0<j) with
 | false=>left;show RF.aE _ _=_;rw[e];rfl
 | true=>exact .inr ⟨i,j,rfl,rfl,of_decide_eq_true e,by show RF.aE _ _=_;rw[e];rfl⟩
theorem KI:eQ X W E (RF.fS .Pow) (rI La λi j=>.int (i ^ j.toNat)):=rL λx y S=>by
 cases x<;>cases y<;>first | exact .inl rfl | skip
 rename_i i j;cases e:(decide (i=10)&&(decide (j=18)||decide (j=9))) with
 | false=>left;show RF.aE _ _=_;rw[e];rfl
 | true=>
  refine .inr ⟨i,j,rfl,rfl,?_,?_⟩
  .simp only[Bool.and_eq_true,Bool.or_eq_true,decide_eq_true_eq] at e;obtain⟨rfl,rfl|rfl⟩:=e
   .exact⟨by decide,by decide,by decide⟩
   .exact⟨by decide,by decide,by decide⟩
  .show RF.aE _ _=_;rw[e];simp only[Bool.and_eq_true,Bool.or_eq_true,decide_eq_true_eq] at e;obtain⟨rfl,rfl|rfl⟩:=e
   .rfl
   .rfl
theorem Kj (op:Operator):∃r,bS X (binaryOp op) r/\eQ X W E (RF.fS op) r:=by
 have no:∀op:Operator,(∀x y S,RF.fS op x y S = .bad)->∃r,bS X (binaryOp op) r/\eQ X W E (RF.fS op) r:=λop h=>
  ⟨λ_ _ _ _=>False,λ_ _ _ _ _ _ _ _ _ _ _ _ z=>z.elim,λM S H x y u v Q c rx ry g=>by rw[h] at g;exact g.elim⟩
 cases op with
 | Add=>exact⟨_,Ia,K3⟩
 | Sub=>exact⟨_,IE,LA⟩
 | Mult=>exact⟨_,Jp,Mn⟩
 | FloorDiv=>exact⟨_,Fq,Ig⟩
 | Mod=>exact⟨_,nq,LJ⟩
 | Pow=>exact⟨_,Km,KI⟩
 | _=>exact no _ λx y S=>by cases x<;>cases y<;>rfl
end
end L2
namespace L2
open PySem PySem.Spec PyProof.Rows
open RF (D O ae Tab)
section
variable {X:Cx}{W:bw}{E:XK}{K:Fg}{M:List Addr}{S:ae}{H:Hp}
theorem iO {d:D}{v:V}(f:RF.bI d=true)(r:au M H d v):fO v=true:=by cases r<;>first | rfl | (simp[RF.bI] at f)
theorem zR {x y:D}{u v:V}(fx:RF.bI x=true)(fy:RF.bI y=true)(rx:au M H x u)(ry:au M H y v):kJ u v=RF.gG x y:=by cases rx<;>cases ry<;>first | rfl | (simp[RF.bI] at fx;done) | (simp[RF.bI] at fy;done)
theorem jU {f:D->D->Option Bool}:∀{xs ys:List D} {b:Bool},RF.jq f xs ys=some b->∃e:Nat->Bool,(∀j x y,xs[j]?=some x->ys[j]?=some y->f x y=some (e j))/\b=(List.range (min xs.length ys.length)).all e
 | [],_,b,h=>⟨λ_=>true,λj x y h1=>by simp at h1,by simp[RF.jq] at h;simp[<-h]⟩
 | x::xs,[],b,h=>⟨λ_=>true,λj x y _ h2=>by simp at h2,by simp[RF.jq] at h;simp[<-h]⟩
 | x::xs,y::ys,b,h=>by
  unfold RF.jq at h;split at h
  .rename_i p q h1 h2;cases h;obtain⟨e,e1,e2⟩:=jU h2;refine⟨λj=>match j with | 0=>p | j+1=>e j,λj x' y' g1 g2=>?_,?_⟩
   .cases j with
    | zero=>simp at g1 g2;subst g1 g2;exact h1
    | succ j=>exact e1 j x' y' (by simpa using g1) (by simpa using g2)
   .have:min (x::xs).length (y::ys).length=min xs.length ys.length+1:=by simp only[List.length_cons];omega
    rw[this,List.range_succ_eq_map,List.all_cons,List.all_map,e2];rfl
  .cases h
theorem gh (c:Cn K W M S H){n:Nat}{xs:List D}{v:V}(h:S[n]?=some (.lst xs))(r:au M H (.ref n) v):∃a vs,v = .ref a/\M[n]?=some a/\H a=some (.lst vs)/\ay M H xs vs:=by obtain⟨a,rfl,e⟩:=bC r;obtain⟨vs,h1,h2⟩:=c.lst h e;exact⟨a,vs,rfl,e,h1,h2⟩
theorem ay.at2 {ds es:List D}{vs:List V}(r:ay M H ds vs)(q:ay M H es vs){j:Nat}{x y:D}(h1:ds[j]?=some x)(h2:es[j]?=some y):∃v,au M H x v/\au M H y v:=by obtain⟨v,g1,g2⟩:=r.get h1;obtain⟨w,k1,k2⟩:=q.get h2;rw[g1] at k1;cases k1;exact⟨v,g2,k2⟩
theorem lr {n:Nat}{e:Nat->Bool}(h:∀j,j<n->e j=true):(List.range n).all e=true:=List.all_eq_true.mpr λj hj=>h j (List.mem_range.mp hj)
theorem me (c:Cn K W M S H):∀(n:Nat) (x y:D) (v:V) (b:Bool),au M H x v->au M H y v->RF.cF S n x y=some b->b=true
 | 0,_,_,_,_,_,_,h=>by simp[RF.cF] at h
 | n+1,x,y,v,b,rx,ry,h=>by
  cases rx with
  | aj=>cases ry;simp[RF.cF,RF.bI,RF.gG] at h;exact h
  | bl k=>cases ry;simp[RF.cF,RF.bI,RF.gG] at h;exact h
  | int i=>cases ry;simp[RF.cF,RF.bI,RF.gG] at h;exact h
  | str z=>cases ry;simp[RF.cF,RF.bI,RF.gG] at h;exact h
  | tup ha hx=>
   cases ry with
   | tup hb hy=>
    rw[ha] at hb;cases hb;unfold RF.cF at h;cases q:RF.jq (RF.cF S n) _ _ with
    | none=>rw[q] at h;cases h
    | some b0=>rw[q] at h;cases h;obtain⟨e,e1,e2⟩:=jU q;have hl:=hx.length.trans hy.length.symm;rw[e2,Bool.and_eq_true];refine⟨lr λj hj=>?_,by simp[hl]⟩;have j1:j<_:=Nat.lt_of_lt_of_le hj (Nat.min_le_left _ _);have j2:j<_:=Nat.lt_of_lt_of_le hj (Nat.min_le_right _ _);obtain⟨w,r1,r2⟩:=hx.at2 hy (List.getElem?_eq_getElem j1) (List.getElem?_eq_getElem j2);exact me c n _ _ w _ r1 r2 (e1 j _ _ (List.getElem?_eq_getElem j1) (List.getElem?_eq_getElem j2))
   | ref hm=>
    unfold RF.cF at h;split at h
    .rename_i z;cases z
    .cases h
  | ref hm=>
   cases ry with
   | tup hb hy=>
    unfold RF.cF at h;split at h
    .rename_i z;cases z
    .cases h
   | ref DV=>
    rename_i n1 a n2;unfold RF.cF at h;split at h
    .rename_i xs ys h1 h2;have e:n1=n2:=c.sep n1 n2 a hm DV (by rw[h1];rfl) (by rw[h2];rfl);subst e;rw[h1] at h2;cases h2;rw[if_pos rfl] at h;obtain⟨e,e1,e2⟩:=jU h;rw[e2];refine lr λj hj=>?_;have j1:j<xs.length:=Nat.lt_of_lt_of_le hj (Nat.min_le_left _ _);obtain⟨vs,_,hx⟩:=c.lst h1 hm;obtain⟨w,r1,r2⟩:=hx.at2 hx (List.getElem?_eq_getElem j1) (List.getElem?_eq_getElem j1);exact me c n _ _ w _ r1 r2 (e1 j _ _ (List.getElem?_eq_getElem j1) (List.getElem?_eq_getElem j1))
    .cases h
theorem lj (c:Cn K W M S H):∀(n:Nat) (x y:D) (u v:V) (b:Bool),au M H x u->au M H y v->RF.cF S n x y=some b->je K H n u v b
 | 0,_,_,_,_,_,_,_,h=>by simp[RF.cF] at h
 | n+1,x,y,u,v,b,rx,ry,h=>by
  by_cases hf:(RF.bI x&&RF.bI y)=true
  .have z0:=hf;simp only[Bool.and_eq_true] at z0;have e:RF.cF S (n+1) x y=some (RF.gG x y):=by cases x<;>cases y<;>first | rfl | (simp[RF.bI] at z0;done)
   rw[e] at h;cases h;rw[<-zR z0.1 z0.2 rx ry];exact Fw (iO z0.1 rx) (iO z0.2 ry)
  .cases x with
   | tup xs=>
    obtain⟨a,vs,rfl,ha,hx⟩:=cA rx;cases y with
    | tup ys=>
     obtain⟨b',ws,rfl,hb,hy⟩:=cA ry;have same:=h;unfold RF.cF at h;cases q:RF.jq (RF.cF S n) xs ys with
     | none=>rw[q] at h;cases h
     | some b0=>
      rw[q] at h;obtain⟨e,e1,e2⟩:=jU q;have hb':b=((List.range (min vs.length ws.length)).all e&&vs.length==ws.length):=by rw[<-hx.length,<-hy.length,<-e2];exact(Option.some.inj h).symm
      subst hb';refine Am (cy.of ha) (cy.of hb) (λz=>?_) λj p q' h1 h2=>?_
      .subst z;rw[hb] at ha;cases ha;exact me c (n+1) _ _ (.ref a) _ (.tup hb hx) (.tup hb hy) same
      .obtain⟨dx,g1,g2⟩:=hx.get' h1;obtain⟨dy,k1,k2⟩:=hy.get' h2;exact lj c n dx dy p q' _ g2 k2 (e1 j dx dy g1 k1)
    | ref j=>simp[RF.cF,RF.bI] at h
    | _=>
     have:b=false:=by simp[RF.cF,RF.bI] at h;exact h
     subst this;exact wC (cy.of ha) (iO (d:=_) rfl ry)
   | ref i=>
    cases y with
    | ref j=>
     have same:=h;unfold RF.cF at h;split at h
     .rename_i xs ys h1 h2;obtain⟨a,vs,rfl,ea,ha,hx⟩:=gh c h1 rx;obtain⟨b',ws,rfl,eb,hb,hy⟩:=gh c h2 ry;split at h
      .rename_i hl;obtain⟨e,e1,e2⟩:=jU h;have hb':b=(List.range vs.length).all e:=by rw[e2,<-hx.length,hl,Nat.min_self]
       subst hb';refine tZ (cm.of ha) (cm.of hb) (by rw[<-hx.length,<-hy.length];exact hl) (λz=>?_) λj p q' g1 g2=>?_
       .subst z;exact me c (n+1) _ _ (.ref a) _ (.ref ea) (.ref eb) same
       .obtain⟨dx,k1,k2⟩:=hx.get' g1;obtain⟨dy,l1,l2⟩:=hy.get' g2;exact lj c n dx dy p q' _ k2 l2 (e1 j dx dy k1 l1)
      .rename_i hl;cases h;exact mK (cm.of ha) (cm.of hb) (by rw[<-hx.length,<-hy.length];exact hl)
     .cases h
    | tup ys=>simp[RF.cF,RF.bI] at h
    | _=>simp[RF.cF,RF.bI] at h
   | _=>
    cases y with
    | tup ys=>
     obtain⟨a,vs,rfl,ha,hx⟩:=cA ry;have:b=false:=by simp[RF.cF,RF.bI] at h;exact h
     subst this;exact wG (cy.of ha) (iO (d:=_) rfl rx)
    | _=>simp[RF.cF,RF.bI] at h hf
mutual
theorem uP {x y:D}{v:V}(hx:RF.bU x=true)(hy:RF.bU y=true)(rx:au M H x v)(ry:au M H y v):x=y:=by
 cases rx with
 | aj=>cases ry;rfl
 | bl b=>cases ry;rfl
 | int i=>cases ry;rfl
 | str z=>cases ry;rfl
 | ref h=>cases hx
 | tup ha rs=>
  cases ry with
  | ref h=>cases hy
  | tup hb qs=>rw[ha] at hb;cases hb;unfold RF.bU at hx hy;rw[qV hx hy rs qs]
theorem qV {xs ys:List D}{vs:List V}(hx:RF.bU.many xs=true)(hy:RF.bU.many ys=true)(rx:ay M H xs vs)(ry:ay M H ys vs):xs=ys:=by
 cases rx with
 | nil=>cases ry;rfl
 | cons h hs=>
  cases ry with
  | cons k ks=>unfold RF.bU.many at hx hy;simp only[Bool.and_eq_true] at hx hy;rw[uP hx.1 hy.1 h k,qV hx.2 hy.2 hs ks]
end
theorem xu {xs:List D}(h:RF.bU.many xs=true){x:D}(hx:x∈xs):RF.bU x=true:=by
 induction xs with
 | nil=>cases hx
 | cons y ys ih=>
  unfold RF.bU.many at h;simp only[Bool.and_eq_true] at h;rcases List.mem_cons.mp hx with rfl | hx
  .exact h.1
  .exact ih h.2 hx
theorem EG {f:D->Option Bool}{xs:List D}{b:Bool}(h:RF.la f xs=some b){x:D}(hx:x∈xs):(f x).isSome=true:=by
 induction xs generalizing b with
 | nil=>cases hx
 | cons y ys ih=>
  unfold RF.la at h;split at h
  .rename_i p q h1 h2;rcases List.mem_cons.mp hx with rfl | hx
   .rw[h1];rfl
   .exact ih h2 hx
  .cases h
theorem FJ {f:D->Option Bool}{xs:List D}{b:Bool}(h:RF.la f xs=some b):b=xs.any λx=>f x==some true:=by
 induction xs generalizing b with
 | nil=>cases h;rfl
 | cons y ys ih=>
  unfold RF.la at h;split at h
  .rename_i p q h1 h2;cases h;rw[List.any_cons,h1,ih h2];cases p<;>rfl
  .cases h
theorem IM (c:Cn K W M S H){x:D}{u:V}{ys:List D}{vs:List V}{b:Bool}(hx:RF.bU x=true)(hy:RF.bU.many ys=true)(rx:au M H x u)(r:ay M H ys vs)(h:RF.la (λz=>RF.cF S 4 z x) ys=some b):
 ∃g:V->Bool,(∀z∈vs,je K H 4 z u (g z))/\vs.any g=b:=by
 classical
 let g:V->Bool:=λz=>decide (∃d∈ys,au M H d z/\RF.cF S 4 d x=some true)
 have key:∀d∈ys,∀z,au M H d z->RF.cF S 4 d x=some (g z):=by
  intro d hd z rz;cases q:RF.cF S 4 d x with
  | none=>have:=EG h hd;rw[q] at this;cases this
  | some k=>
   congr 1
   cases k with
   | true=>exact(decide_eq_true ⟨d,hd,rz,q⟩).symm
   | false=>refine(decide_eq_false ?_).symm;rintro⟨d',iD,rz',q'⟩;rw[uP (xu hy hd) (xu hy iD) rz rz'] at q;rw[q] at q';cases q'
 refine⟨g,λz hz=>?_,?_⟩
 .obtain⟨i,hi⟩:=List.getElem?_of_mem hz;obtain⟨d,h1,h2⟩:=r.get' hi;exact lj c 4 d x z u _ h2 rx (key d (List.mem_of_getElem? h1) z h2)
 .rw[FJ h];clear h;have:∀(ds:List D) (ws:List V),ay M H ds ws->(∀d∈ds,d∈ys)->ws.any g=ds.any λz=>RF.cF S 4 z x==some true:=by
   intro ds
   induction ds with
   | nil=>intro ws r _;cases r;rfl
   | cons d ds ih=>
    intro ws r hm;cases r with
    | cons k ks=>rw[List.any_cons,List.any_cons,ih _ ks λe he=>hm e (List.mem_cons_of_mem _ he),key d (hm d (List.mem_cons_self ..)) _ k];cases g _<;>rfl
  exact this ys vs r λ_ h=>h
theorem uL (c:Cn K W M S H){x y:D}{u v:V}{b:Bool}(rx:au M H x u)(ry:au M H y v)(h:RF.iS S RF.depth x y=some b):je K H RF.depth u v b:=by
 unfold RF.iS at h;split at h
 .rename_i i j;split at h
  .rename_i xs h1 h2;cases h;obtain⟨a,rfl,ea⟩:=bC rx;obtain⟨b',ws,rfl,eb,hb,hy⟩:=gh c h2 ry;cases hy;obtain⟨vs,ha,hx⟩:=c.at_ i _ a h1 ea;cases hx with
   | nil=>exact Lh (n:=1) (tZ (n:=0) (e:=λ_=>true) ha.sq (cm.of hb) rfl (λ_=>rfl) λj p q g1=>by simp at g1) (by decide)
   | cons _ _=>exact mK ha.sq (cm.of hb) (by simp)
  .exact lj c _ _ _ _ _ _ rx ry h
 .exact lj c _ _ _ _ _ _ rx ry h
theorem sQ {o:Option Bool}{Q:VK}(g:aw K W au E M H (RF.d4 o S) Q)(c:Cn K W M S H):∃b,o=some b/\Q (.bl b) H:=by
 cases o with
 | none=>exact g.elim
 | some b=>exact⟨b,rfl,aw.now g c (.bl b)⟩
theorem os_eq:eQ X W E (RF.bg .Eq) (LK X.K RF.depth):=by intro M S H x y u v Q c rx ry g;obtain⟨b,h,q⟩:=sQ g c;exact⟨b,uL c rx ry h,q⟩
theorem NF:eQ X W E (RF.bg .NotEq) (Lw X.K RF.depth):=by intro M S H x y u v Q c rx ry g;obtain⟨b,h,q⟩:=sQ g c;obtain⟨b',h',e⟩:=Option.map_eq_some_iff.mp h;subst e;exact⟨b',uL c rx ry h',q⟩
theorem so {op:CmpOp}{f:Int->Int->Bool}(h:∀(x y:D) (S:ae),RF.bg op x y S = .bad\/∃i j,x = .int i/\y = .int j/\RF.bg op x y S = .ok (.bl (f i j)) S):eQ X W E (RF.bg op) (pT λi j=>.bl (f i j)):=by
 intro M S H x y u v Q c rx ry g;rcases h x y S with e | ⟨i,j,rfl,rfl,e⟩
 .rw[e] at g;exact g.elim
 .rw[e] at g;cases rx;cases ry;exact⟨i,j,rfl,rfl,aw.now g c (.bl _)⟩
theorem zF {d:D}{v:V}(r:au M H d v):decide (v = .aj)=decide (d = .aj):=by cases r<;>simp
theorem NB:eQ X W E (RF.bg .Is) (λx y H Q=>y = .aj/\Q (.bl (decide (x = .aj))) H):=by
 intro M S H x y u v Q c rx ry g
 change aw X.K W au E M H (if y = .aj then .ok (.bl (decide (x = .aj))) S else .bad) Q at g
 split at g
 .rename_i e;subst e;cases ry;rw[zF rx];exact⟨rfl,aw.now g c (.bl _)⟩
 .exact g.elim
theorem FD:eQ X W E (RF.bg .IsNot) (λx y H Q=>y = .aj/\Q (.bl (!decide (x = .aj))) H):=by
 intro M S H x y u v Q c rx ry g
 change aw X.K W au E M H (if y = .aj then .ok (.bl (!decide (x = .aj))) S else .bad) Q at g
 split at g
 .rename_i e;subst e;cases ry;rw[zF rx];exact⟨rfl,aw.now g c (.bl _)⟩
 .exact g.elim
theorem fW {κ:Type}[DecidableEq κ]{f:κ->D}(hf:∀a b,f a=f b->a=b){af:List (D×D)}{ks:List (κ×V)}(h:Paired (bZ f M H) af ks)(k:κ):
 (RF.cU af (f k)=none/\cV ks k=none)\/∃d v,RF.cU af (f k)=some d/\cV ks k=some v/\au M H d v:=by
 induction h with
 | nil=>exact .inl ⟨rfl,rfl⟩
 | @cons p q af ks r t ih=>
  obtain⟨r1,r2⟩:=r
  by_cases e:q.1=k
  .refine .inr ⟨p.2,q.2,?_,ka e,r2⟩;simp[RF.cU,List.find?_cons,r1,e]
  .have e':¬p.1=f k:=λz=>e (hf _ _ (r1.symm.trans z));have h1:RF.cU (p::af) (f k)=RF.cU af (f k):=by simp[RF.cU,List.find?_cons,e']
   rw[h1,kg e];exact ih
theorem nh {f:D->Bool}{af:List (D×D)}{k:D}(h:(af.all λkv=>f kv.1)=true)(hk:f k=false):RF.cU af k=none:=by
 unfold RF.cU;rw[List.find?_eq_none.mpr]
 .rfl
 .intro p hp e;have:=List.all_eq_true.mp h p hp;rw[of_decide_eq_true e,hk] at this;cases this
theorem gE {k:D}(h:RF.dP k=true):RF.aY k=false:=by cases k<;>first | rfl | (simp[RF.dP] at h)
theorem kS {k:D}(h:RF.aY k=true):RF.dP k=false:=by cases k<;>first | rfl | (simp[RF.aY] at h)
theorem g6 {af:List (D×D)}{ks:List (Key×V)}(h:Paired (bZ dB M H) af ks):(af.all λkv=>RF.dP kv.1)=true:=by
 induction h with
 | nil=>rfl
 | cons r _ ih=>rw[List.all_cons,r.1,mP,ih];rfl
theorem wK {af:List (D×D)}{ts:List (List Key×V)}(h:Paired (bZ ofKeys M H) af ts):(af.all λkv=>RF.aY kv.1)=true:=by
 induction h with
 | nil=>rfl
 | cons r _ ih=>rw[List.all_cons,r.1,vm,ih];rfl
theorem Cn.af (c:Cn K W M S H){d:D}{u:V}{af:List (D×D)}(h:RF.kvsOf S d=some af)(r:au M H d u):∃n a,d = .ref n/\u = .ref a/\M[n]?=some a /\
 ((∃ks:List (Key×V),Rd H a (.dK ks)/\Paired (bZ dB M H) af ks)\/∃ts:List (List Key×V),Rd H a (.dT ts)/\Paired (bZ ofKeys M H) af ts):=by
 unfold RF.kvsOf at h;split at h
 .rename_i n;obtain⟨a,rfl,e⟩:=bC r;refine⟨n,a,rfl,rfl,e,?_⟩;split at h
  .rename_i hS;cases h;rcases c.at_ n _ a hS e with⟨ks,h1,h2⟩|⟨ts,h1,h2⟩
   .exact .inl ⟨ks,.inl h1,h2⟩
   .exact .inr ⟨ts,.inl h1,h2⟩
  .rename_i hS;cases h;obtain⟨o,ts,h1,h2⟩:=c.at_ n _ a hS e;exact .inr ⟨ts,.inr ⟨o,h1⟩,h2⟩
  .cases h
 .cases h
end
end L2
namespace L2
open PySem PySem.Spec PyProof.Rows
open RF (D O ae Tab)
def kK (H:Hp)(a:Addr)(H':Hp):Prop:=(H a=some (.dK [])/\H'=upd H a (.dT []))\/(H a=some (.dT [])/\H'=upd H a (.dK []))
section
variable {X:Cx}{pins:List (Addr×Obj)}{σ:St}{H H':Hp}{s:Sh}{a:Addr}
theorem Inv.ret (I:Inv X pins σ H s)(h:kK H a H'):Inv X pins σ H' s:=by
 rcases h with⟨e,rfl⟩|⟨e,rfl⟩
 .obtain⟨z,y,vs,r,o,es,ep,g,ex,d,kf,ps,nd⟩:=I.aq a _ e;have hv:vs=[]:=by cases r;rfl
  subst hv;have he:es.toList=[]:=by
   revert ps
   generalize es.toList=l;intro ps;cases ps;rfl
  exact I.write (h':=s.heap) (t':=s.toks) (e:=a) (by rw[e];trivial) (.inl rfl) (λb u _ q=>q) ⟨o,g⟩ ⟨Nat.zero_le _,y,[],.nil,o,es,ep,g,ex,d,he,List.nodup_nil⟩
 .obtain⟨z,y,xs,r,o,es,ep,g,ex,d,he,nd⟩:=I.aq a _ e;have hv:xs=[]:=by cases r;rfl
  subst hv;have he:es = #[]:=by have:es.toList=[]:=he;exact Array.toList_eq_nil_iff.mp this
  subst he;have y':(a==sysModules)=false:=y;refine I.write (h':=s.heap) (t':=s.toks) (e:=a) (by rw[e];trivial) (.inl rfl) (λb u _ q=>q) ⟨o,g⟩ ⟨Nat.zero_le _,y',[],.nil,o,#[],ep,g,ex,d,?_,.nil,List.nodup_nil⟩
  first | exact λ_ hx=>by simp at hx | (intro i;simp) | (constructor<;>simp) | simp[KeysOf]
end
section
variable {X:Cx}{W:bw}{E:XK}{K:Fg}{M:List Addr}{S:ae}{H H':Hp}
theorem Cn.ret (c:Cn K W M S H){n:Nat}{a:Addr}(hS:S[n]?=some (.aN []))(hM:M[n]?=some a)(h:kK H a H'):Cn K W M S H'/\Up M H M H':=by
 have hs:S.set n (.aN [])=S:=by
  refine List.ext_getElem? λi=>?_
  by_cases e:n=i
  .subst e;rw[List.getElem?_set_self (List.getElem?_eq_some_iff.mp hS).1,hS]
  .rw[List.getElem?_set_ne e]
 rcases h with⟨e,rfl⟩|⟨e,rfl⟩
 .have nt:c9 (H a):=d7 e rfl;have:=c.put (o':=.aN []) (ho':=.dT []) hS hM rfl rfl nt (.inr ⟨[],aA,.nil⟩);rw[hs] at this;exact⟨this,aW nt⟩
 .have nt:c9 (H a):=d7 e rfl;have:=c.put (o':=.aN []) (ho':=.dK []) hS hM rfl rfl nt (.inl ⟨[],aA,.nil⟩);rw[hs] at this;exact⟨this,aW nt⟩
theorem all_nil {f g:D->Bool}{af:List (D×D)}(h1:(af.all λkv=>f kv.1)=true)(h2:(af.all λkv=>g kv.1)=true)(hd:∀k,f k=true->g k=false):af=[]:=by
 cases af with
 | nil=>rfl
 | cons p r=>simp only[List.all_cons,Bool.and_eq_true] at h1 h2;rw[hd _ h1.1] at h2;cases h2.1
theorem qF (c:Cn K W M S H){n:Nat}{a:Addr}{af:List (D×D)}{k:D}{u:V}(hS:S[n]?=some (.aN af))(hM:M[n]?=some a)(hf:RF.cj af k=true)(r:au M H k u):
 ∃H',(H'=H\/kK H a H')/\Cn K W M S H'/\Up M H M H' /\
  ((∃(ks:List (Key×V)) (q:Key),H' a=some (.dK ks)/\Paired (bZ dB M H') af ks/\k=dB q/\u=kV q) \/
   ∃(ts:List (List Key×V)) (q:List Key) (b:Addr),H' a=some (.dT ts)/\Paired (bZ ofKeys M H') af ts/\k=ofKeys q/\u = .ref b/\H' b=some (.tup (q.map kV))):=by
 have Ni:∀{H':Hp} (q:List Key),au M H' (ofKeys q) u->∃b,u = .ref b/\H' b=some (.tup (q.map kV)):=λq r=>by obtain⟨b,vs,e,hb,hs⟩:=cA r;rw[lJ hs] at hb;exact⟨b,e,hb⟩
 unfold RF.cj at hf;simp only[Bool.or_eq_true,Bool.and_eq_true] at hf;rcases c.at_ n _ a hS hM with⟨ks,h1,h2⟩|⟨ts,h1,h2⟩
 .rcases hf with⟨f1,f2⟩|⟨f1,f2⟩
  .obtain⟨q,rfl⟩:=jB f1;exact⟨H,.inl rfl,c,Up.refl _ _,.inl ⟨ks,q,h1,h2,rfl,rX r⟩⟩
  .have:=all_nil (g6 h2) f2 (λk=>gE);subst this;cases h2;obtain⟨q,rfl⟩:=gX f1;have re:kK H a (upd H a (.dT [])):=.inl ⟨h1,rfl⟩;obtain⟨c',u'⟩:=c.ret hS hM re;obtain⟨b,e,hb⟩:=Ni q (r.up u');exact⟨_,.inr re,c',u',.inr ⟨[],q,b,aA,.nil,rfl,e,hb⟩⟩
 .rcases hf with⟨f1,f2⟩|⟨f1,f2⟩
  .have:=all_nil (wK h2) f2 (λk=>kS);subst this;cases h2;obtain⟨q,rfl⟩:=jB f1;have re:kK H a (upd H a (.dK [])):=.inr ⟨h1,rfl⟩;obtain⟨c',u'⟩:=c.ret hS hM re;exact⟨_,.inr re,c',u',.inl ⟨[],q,aA,.nil,rfl,rX r⟩⟩
  .obtain⟨q,rfl⟩:=gX f1;obtain⟨b,e,hb⟩:=Ni q r;exact⟨H,.inl rfl,c,Up.refl _ _,.inr ⟨ts,q,b,h1,h2,rfl,e,hb⟩⟩
theorem xb (c:Cn K W M S H){x k:D}{u v:V}{o:Option D}(rx:au M H x u)(rk:au M H k v)(h:RF.kz S x k=some o):
 ∃a H' p,u = .ref a/\(H'=H\/kK H a H')/\Cn K W M S H'/\Up M H M H'/\iM H' a v p/\((o=none/\p=none)\/∃d w,o=some d/\p=some w/\au M H' d w):=by
 unfold RF.kz at h;split at h
 .rename_i n;obtain⟨a,rfl,e⟩:=bC rx;split at h
  .rename_i af hS;split at h
   .rename_i hf;cases h;obtain⟨H',hr,c',u',g⟩:=qF c hS e hf rk;rcases g with⟨ks,q,g1,g2,rfl,rfl⟩|⟨ts,q,b,g1,g2,rfl,rfl,g3⟩
    .refine⟨a,H',_,rfl,hr,c',u',iM.k g1,?_⟩;rcases fW (λ_ _=>iV) g2 q with⟨z1,z2⟩|⟨d,w,z1,z2,z3⟩
     .exact .inl ⟨z1,z2⟩
     .exact .inr ⟨d,w,z1,z2,z3⟩
    .refine⟨a,H',_,rfl,hr,c',u',iM.t g1 g3,?_⟩;rcases fW (λ_ _=>dF) g2 q with⟨z1,z2⟩|⟨d,w,z1,z2,z3⟩
     .exact .inl ⟨z1,z2⟩
     .exact .inr ⟨d,w,z1,z2,z3⟩
   .cases h
  .rename_i af hS;split at h
   .rename_i hf;cases h;obtain⟨ob,ts,g1,g2⟩:=c.at_ n _ a hS e;obtain⟨q,rfl⟩:=gX hf;obtain⟨b,vs,rfl,hb,hs⟩:=cA rk;rw[lJ hs] at hb;refine⟨a,H,cV ts q,rfl,.inl rfl,c,Up.refl _ _,.inr ⟨ts,q,b,.inr ⟨ob,g1⟩,rfl,hb,rfl⟩,?_⟩;rcases fW (λ_ _=>dF) g2 q with⟨z1,z2⟩|⟨d,w,z1,z2,z3⟩
    .exact .inl ⟨z1,z2⟩
    .exact .inr ⟨d,w,z1,z2,z3⟩
   .cases h
  .cases h
 .cases h
def Fe (neg:Bool):R2:=λx y H Q=>∃a H' o,y = .ref a/\(H'=H\/kK H a H')/\iM H' a x o/\Q (.bl (if neg then !o.isSome else o.isSome)) H'
theorem Mh (hu:X.A.units+1<cLine):bS X (compareOp .In) (Fe false):=by
 intro pins s σ H x y v u Q I rx ry h;obtain⟨a,H',o,rfl,hr,g,q⟩:=h;cases ry;have I':Inv X pins σ H' s:=by
  rcases hr with rfl | hr
  .exact I
  .exact I.ret hr
 exact Pq hu I' g rx λs' I''=>⟨.bl o.isSome,H',I'',rfl,q⟩
theorem Cf (hu:X.A.units+1<cLine):bS X (compareOp .NotIn) (Fe true):=by
 intro pins s σ H x y v u Q I rx ry h;obtain⟨a,H',o,rfl,hr,g,q⟩:=h;cases ry;have I':Inv X pins σ H' s:=by
  rcases hr with rfl | hr
  .exact I
  .exact I.ret hr
 exact IQ hu I' g rx λs' I''=>⟨.bl (!o.isSome),H',I'',rfl,q⟩
def LW (neg:Bool):R2:=λx y H Q=>∃i j,x = .str i/\y = .str j/\Q (.bl (if neg then !(!(Builtin.Str.occurrences j i 0 j.length 1).isEmpty) else !(Builtin.Str.occurrences j i 0 j.length 1).isEmpty)) H
def wO (K:Fg)(neg:Bool):R2:=λx y H Q=>Fe neg x y H Q\/Ey K 4 neg x y H Q\/LW neg x y H Q
theorem LG (hu:X.A.units+RF.depth<cLine):bS X (compareOp .In) (wO X.K false):=(Mh (Nat.lt_of_le_of_lt (Nat.add_le_add_left (by decide) _) hu)).or ((Md (Nat.lt_of_le_of_lt (by rw[Nat.add_assoc];exact Nat.add_le_add_left (by decide) _) hu)).or BL)
theorem Dv (hu:X.A.units+RF.depth<cLine):bS X (compareOp .NotIn) (wO X.K true):=(Cf (Nat.lt_of_le_of_lt (Nat.add_le_add_left (by decide) _) hu)).or ((Dz (Nat.lt_of_le_of_lt (by rw[Nat.add_assoc];exact Nat.add_le_add_left (by decide) _) hu)).or wV)
theorem ma (c:Cn K W M S H){x:D}{u:V}{xs:List D}(h:RF.itemsOf S x=some xs)(r:au M H x u):∃a vs,u = .ref a/\(cm K H a vs\/cy K H a vs)/\ay M H xs vs:=by
 cases x with
 | tup ys=>cases h;obtain⟨a,vs,rfl,ha,hx⟩:=cA r;exact⟨a,vs,rfl,.inr (cy.of ha),hx⟩
 | ref n=>obtain⟨a,rfl,e⟩:=bC r;obtain⟨vs,h1,h2⟩:=c.items h e;exact⟨a,vs,rfl,.inl h1,h2⟩
 | _=>cases h
theorem Du {xs:List D}{vs:List V}(r:ay M H xs vs)(f:xs.all RF.bI=true):vs.all fO=true:=by
 induction xs generalizing vs with
 | nil=>cases r;rfl
 | cons x xs ih=>
  cases r with
  | cons h hs=>simp only[List.all_cons,Bool.and_eq_true] at f ⊢;exact⟨iO f.1 h,ih hs f.2⟩
theorem GN (c:Cn K W M S H){x y:D}{u v:V}{b:Bool}{neg:Bool}{Q:VK}(rx:au M H x u)(ry:au M H y v)(h:RF.inD S x y=some b)(q:∀H',Cn K W M S H'->Up M H M H'->Q (.bl (if neg then !b else b)) H'):wO K neg u v H Q:=by
 unfold RF.inD at h;split at h
 .obtain⟨o,h1,h2⟩:=Option.map_eq_some_iff.mp h;obtain⟨a,H',p,e,hr,c',u',g,z⟩:=xb c ry rx h1;refine .inl ⟨a,H',p,e,hr,g,?_⟩;have:p.isSome=b:=by rw[<-h2];rcases z with⟨rfl,rfl⟩|⟨d,w,rfl,rfl,_⟩<;>rfl
  rw[this];exact q H' c' u'
 .split at h
  .rename_i ys hi;split at h
   .rename_i hf;simp only[Bool.and_eq_true] at hf;obtain⟨a,vs,rfl,hs,hv⟩:=ma c hi ry;obtain⟨g,g1,g2⟩:=IM c hf.1 hf.2 rx hv h;refine .inr (.inl ⟨a,vs,g,rfl,hs,g1,?_⟩);rw[g2];exact q H c (Up.refl _ _)
   .cases h
  .split at h
   .cases h;cases rx;cases ry;exact .inr (.inr ⟨_,_,rfl,rfl,q H c (Up.refl _ _)⟩)
   .cases h
theorem NV:eQ X W E (RF.bg .In) (wO X.K false):=by
 intro M S H x y u v Q c rx ry g;have g:aw X.K W au E M H (RF.d4 (RF.inD S x y) S) Q:=g;cases h:RF.inD S x y with
 | none=>rw[h] at g;exact g.elim
 | some b=>rw[h] at g;exact GN c rx ry h λH' c' u'=>aw.at_ g c' u' (.bl b)
theorem E4:eQ X W E (RF.bg .NotIn) (wO X.K true):=by
 intro M S H x y u v Q c rx ry g;have g:aw X.K W au E M H (RF.d4 ((RF.inD S x y).map (! ·)) S) Q:=g;cases h:RF.inD S x y with
 | none=>rw[h] at g;exact g.elim
 | some b=>rw[h] at g;exact GN c rx ry h λH' c' u'=>aw.at_ g c' u' (.bl !b)
theorem lF (hu:X.A.units+RF.depth<cLine)(op:CmpOp):∃r,bS X (compareOp op) r/\eQ X W E (RF.bg op) r:=by
 have hu1:X.A.units+1<cLine:=Nat.lt_of_le_of_lt (Nat.add_le_add_left (by decide) _) hu;cases op with
 | Eq=>exact⟨_,MY hu,os_eq⟩
 | NotEq=>exact⟨_,Lr hu,NF⟩
 | Lt=>exact⟨_,Oi,so λx y S=>by cases x<;>cases y<;>first | exact .inl rfl | exact .inr ⟨_,_,rfl,rfl,rfl⟩⟩
 | LtE=>exact⟨_,NA,so λx y S=>by cases x<;>cases y<;>first | exact .inl rfl | exact .inr ⟨_,_,rfl,rfl,rfl⟩⟩
 | Gt=>exact⟨_,Of,so λx y S=>by cases x<;>cases y<;>first | exact .inl rfl | exact .inr ⟨_,_,rfl,rfl,rfl⟩⟩
 | GtE=>exact⟨_,NC,so λx y S=>by cases x<;>cases y<;>first | exact .inl rfl | exact .inr ⟨_,_,rfl,rfl,rfl⟩⟩
 | Is=>exact⟨_,K4,NB⟩
 | IsNot=>exact⟨_,Iw,FD⟩
 | In=>exact⟨_,LG hu,NV⟩
 | NotIn=>exact⟨_,Dv hu,E4⟩
end
end L2
namespace L2
open PySem PySem.Spec PyProof.Rows PySem.W Builtin Builtin.ObjectAttr
section
variable {prog:Program}{w:World}{A:Around}{E:Value->Sh->Prop}{s:Sh}{K:Fg}{x C B:Addr}{ox:Obj}{f:Str}{v:Value}
end
end L2
namespace L2
open PySem PySem.Spec PyProof.Rows PySem.W
section
variable {prog:Program}{w:World}{A:Around}{E:Value->Sh->Prop}{h:Heap}{g:Array GenState}{d:Drawn}{t:Nat}{os:OsState}
variable {nm q:Str}{C N:Addr}{bs bm:List Value}{hdct:Bool}{sn:List Str}{sub:List Value}{ab:Bool}{col:Option Bool}{dd:Option Addr}{k0 k1 k2 k3 k5:Option Value}
end
end L2
namespace L2
open PySem PySem.Spec PyProof.Rows
section
variable {P:Program}{w:World}{K:Fg}{mg:Str->Option Value}{base:Heap}{A:Around}{outer:List Env}{s:Sh}{H:Hp}
end
end L2
namespace L2
open PySem PySem.Spec PyProof.Rows
section
variable {M:Model}{A:Around}{E:Value->Sh->Prop}{env:Env}{nm q:Str}{C N:Addr}{bs bm:List Value}{hdct:Bool}{sn:List Str}{sub:List Value}{ab:Bool}{col:Option Bool}{dd:Option Addr}{k0 k1 k2 k3 k5:Option Value}{newId:String}
end
end L2
namespace L2
open PySem PySem.Spec PyProof.Rows
open RF (D O ae Tab)
theorem aC {e:Expr}{es:List Expr}{env:Env}(h:RF.aL e=true):starEach (e::es) env=(false,eval e env)::starEach es env:=by cases e<;>first | rfl | (simp[RF.aL] at h)
theorem bM {env:Env}{pos:Pos}:∀{es:List Expr},es.all RF.aL=true->(backTo pos (starEach es env)).any (·.1)=false
 | [],_=>rfl
 | e::es,h=>by simp only[List.all_cons,Bool.and_eq_true] at h;rw[aC h.1];show (false||(backTo pos (starEach es env)).any (·.1))=false;rw[bM h.2];rfl
theorem wN {env:Env}{pos:Pos}:∀{es:List Expr},es.all RF.aL=true->(backTo pos (starEach es env)).all (λx=>!x.1)=true
 | [],_=>rfl
 | e::es,h=>by simp only[List.all_cons,Bool.and_eq_true] at h;rw[aC h.1];show (true&&(backTo pos (starEach es env)).all (λx=>!x.1))=true;rw[wN h.2];rfl
theorem fG {o:Expr}{m:Str}{env:Env}{w:Sem Value}(h:RF.ji o=true):attributeBase o m env w=w:=by
 unfold attributeBase;split
 .simp[RF.ji] at h
 .rfl
theorem iB {env:Env}{pos:Pos}{es:List Expr}(h:es.all RF.aL=true)(hn:es.length<30):
 ((backTo pos (starEach es env)).all (λx=>!x.1)&&(backToKw pos (keywordEach [] env)).all (λx=>x.1.isSome)&&decide (es.length+([]:List Keyword).length+(if ([]:List Keyword).isEmpty then 0 else 1)<30))=true:=by
 rw[wN h];simp[backToKw,keywordEach,hn]
theorem tX {o:Expr}{m:Str}{apos pos:Pos}{args:List Expr}{env:Env}(hb:RF.ji o=true)(hp:args.all RF.aL=true)(hn:args.length<30)(hl:(apos.endLine==pos.line)=true):
 eval (.Call (.Attribute o m apos) args [] pos) env=(do
  let ov <-eval o env
  standAt apos.atName
  let (f,first) <-holding [ov] (getMethod ov m (do return (<-importBound o env).getD true))
  callWith pos f first (backTo pos (starEach args env)) (backToKw pos (keywordEach [] env))):=by
 have hf:methodCallForm (args.length+([]:List Keyword).length) (backTo pos (starEach args env)) (backToKw pos (keywordEach [] env))=true:=iB hp hn;rw[arm_eval_Call,fG hb];unfold methodCall;rw[hf];simp only[calleeOf,methodCallPos,hl,if_true,Bool.not_true,Bool.false_or,pure_bind]
theorem cG {l:List Str}{x:Str}{i:Nat}(h:RF.bY l x=some i):l[i]?=some x:=by unfold RF.bY at h;obtain⟨hi,h1,_⟩:=List.findIdx?_eq_some_iff_getElem.mp h;rw[List.getElem?_eq_getElem hi];exact congrArg some (of_decide_eq_true h1)
def oq (sc uX:Scope):Prop:=∀x:Str,uX.names.lookup x=sc.names.lookup x\/(sc.names.lookup x=some .free/\uX.names.lookup x=some .cell)
theorem oq.refl (sc:Scope):oq sc sc:=λ_=>.inl rfl
theorem oq.PV {sc uX:Scope}(k:oq sc uX){x:Str}(h:xk sc x):xk uX x:=by
 rcases k x with e | ⟨_,e⟩
 .unfold xk;rw[e];exact h
 .exact .inr (.inl e)
theorem oq.glob {sc uX:Scope}(k:oq sc uX){x:Str}(h:sc.names.lookup x=some .globalImplicit):uX.names.lookup x=some .globalImplicit:=by
 rcases k x with e | ⟨e,_⟩
 .rw[e];exact h
 .rw[h] at e;cases e
def nR (K:Fg)(W:bw)(f:List D->ae->RF.R D)(n:Nat):Sp:=λvs H Q E=>vs.length=n/\∃M S ds,Cn K W M S H/\ay M H ds vs/\aw K W au E M H (f ds S) Q
def cD:List Str:=["isinstance","int","bool","str","tuple","list","len","all","max","min","range","set"]
def dV:D->V
 | .bl b=>.bl b
 | .int i=>.int i
 | .str x=>.str x
 | _=>.aj
def Ae (kw:List (Str×D))(ks:List Str)(zs:List V):List V:=kw.map λp=>((ks.zip zs).lookup p.1).getD (dV p.2)
def jS (K:Fg)(T:Tab)(c:Nat)(x:Str)(fd:FuncData)(ps:List Str):Prop:=
 (x = "__init__"/\T.dh c≠[]/\(∀p∈T.dh c,RF.bI p.2=true)/\∀ks:List Str,(ks.all λq=>(T.dh c).any λp=>decide (p.1=q))=true->ks.Nodup->∃g,wc K fd ps ks g λvs zs=>vs++Ae (T.dh c) ks zs)\/((x = "__init__"->T.dh c=[])/\Binds K fd ps [])
structure TopK (P:Program)(w:World)(K:Fg)(mg:Str->Option Value)(base:Heap)(W:bw)(cl:RF.Calls)(k:Nat):Prop where
 cons:∀x d,W.T.cons.lookup x=some d->∃u v,mg x=some u/\RelV v u/\∀M H,au M H d v
 fn:∀x i,RF.bY W.T.eg x=some i->∃f fd ps,dE P w K mg base (lH P w) k f fd ps (nR K W (cl.f i) ps.length)/\(∀ds S,ds.length≠ps.length->cl.f i ds S = .bad)/\mg x=some (.ref f)/\PySem.W.keepIn K (.ref f)=true/\Binds K fd ps []
 tP:∀x c,RF.bY W.T.gf x=some c->mg x=some (.ref (W.c c))
 x9:∀c,c<W.T.gf.length->gH K (W.c c)
 plain:∀c f x,c<W.T.gf.length->W.T.plain c f=true->W.T.cJ[f]?=some x->hV K (W.c c) x
 mt:∀c m x,W.T.aJ c m=true->W.T.cJ[m]?=some x->∃f fd ps,dE P w K mg base (lH P w) k f fd ps (nR K W (cl.m c m) ps.length)/\(∀ds S,ds.length≠ps.length->cl.m c m ds S = .bad)/\Meth K (W.c c) x f/\jS K W.T c x fd ps/\(x = "__init__"->Mk K (W.c c) f)/\gH K (W.c c)
 blt:∀x∈cD,mg x=none
 ph:W.ph=dw P w
structure bT (X:Cx)(W:bw)(Γ:RF.Gm)(E:XK)(cl:RF.Calls)(k:Nat):Prop where
 N:X.N=Γ.N
 nd:X.N.Nodup
 jm:oq Γ.sc X.env.scope
 calm:X.calm=true
 room:cO (k+1) X.A
 pass:Passes (lH X.prog X.w) X E
 top:TopK X.prog X.w X.K X.mg X.base W cl k
section
variable {X:Cx}{W:bw}{Γ:RF.Gm}{E:XK}{cl:RF.Calls}{k:Nat}{a b c e:Expr}{ca cb cc:RF.C D}{pos:Pos}
theorem bT.units (C:bT X W Γ E cl k):X.A.units+RF.depth<cLine:=Nat.lt_of_le_of_lt (Nat.add_le_add_left (by decide:RF.depth<=64) _) C.room.units
theorem bT.CY (C:bT X W Γ E cl k):X.A.units+1<cLine:=NG C.room
theorem bT.nS (C:bT X W Γ E cl k):X.A.units+2<cLine:=Nat.lt_of_le_of_lt (Nat.add_le_add_left (by decide:2<=64) _) C.room.units
theorem bT.gl (C:bT X W Γ E cl k){x:Str}(h:RF.fb Γ x=true):Gl X x/\(x==("__debug__":Str))=false:=by unfold RF.fb RF.pj at h;simp only[Bool.and_eq_true,Bool.not_eq_true',Bool.or_eq_false_iff] at h;exact⟨C.jm.glob (eq_of_beq h.2),h.1.1⟩
theorem nP {d:D}{v:V}{t:TE}(h:PE X e (tC v))(r:∀M H,au M H d v):PE X e (tE X.K W E (RF.cE d)):=
 h.imp λσ H Q ⟨M,ρ,S,s,g⟩=>aw.now g s.con (r M H)
theorem Mx {i:Nat}{x:Str}(hN:X.N[i]?=some x)(hv:xk X.env.scope x)(hd:(x==("__debug__":Str))=false)(hc:(x==("__classdict__":Str))=false):PE X (.Name x pos) (tE X.K W E (RF.aa i)):=by
 refine(Ma hN hv hd hc).imp λσ H Q ⟨M,ρ,S,s,g⟩=>?_;unfold RF.aa at g;split at g
 .rename_i d hd;obtain⟨v,h1,h2⟩:=s.env i d hd;exact⟨v,h1,aw.now g s.con h2⟩
 .exact g.elim
theorem Jh (C:bT X W Γ E cl k)(x:Str):PE X (.Name x pos) (tE X.K W E (RF.Ar W.T Γ x)):=by
 unfold RF.Ar;split
 .exact bu
 .rename_i ho;unfold RF.pj at ho;simp only[Bool.or_eq_true,not_or,Bool.not_eq_true] at ho;have loc:xk Γ.sc x->PE X (.Name x pos) (tE X.K W E (match RF.bY Γ.N x with | some i=>RF.aa i | none=>RF.a7)):=λhv=>by
   split
   .rename_i i hi;exact Mx (by rw[C.N];exact cG hi) (C.jm.PV hv) ho.1 ho.2
   .exact bu
  split
  .rename_i h;exact loc (.inl h)
  .rename_i h;exact loc (.inr (.inl h))
  .rename_i h;exact loc (.inr (.inr h))
  .rename_i h;split
   .rename_i d hd;obtain⟨u,v,h1,h2,h3⟩:=C.top.cons x d hd;exact nP (t:=tC v) (Jn (C.jm.glob h) h1 h2 ho.1) h3
   .exact bu
  .exact bu
theorem Ls (ha:PE X a (tE X.K W E ca)):PE X (.UnaryOp .Not a pos) (tE X.K W E (RF.FR ca)):=by refine(ML ha).imp λσ H Q ⟨M,ρ,S,s,g⟩=>?_;refine bH s g λM1 H1 x u S1 s1 u1 r1 g1=>?_;obtain⟨t,rfl,g1⟩:=oW g1;cases r1;exact⟨t,rfl,aw.now g1 s1.con (.bl _)⟩
theorem Ky (ha:PE X a (tE X.K W E ca)):PE X (.UnaryOp .USub a pos) (tE X.K W E (RF.Bj ca)):=by
 refine(AQ wW ha).imp λσ H Q ⟨M,ρ,S,s,g⟩=>?_;refine bH s g λM1 H1 x u S1 s1 u1 r1 g1=>?_;cases x with
 | int i=>cases r1;exact⟨i,rfl,aw.now g1 s1.con (.int _)⟩
 | _=>exact g1.elim
theorem Lu {r:List Expr}(ha:PE X a (tE X.K W E ca))(hb:PE X (.BoolOp .And (b::r) pos) (tE X.K W E cb)):PE X (.BoolOp .And (a::b::r) pos) (tE X.K W E (RF.gR ca cb)):=by
 refine(L5 ha hb).imp λσ H Q ⟨M,ρ,S,s,g⟩=>?_;refine bH s g λM1 H1 x u S1 s1 u1 r1 g1=>?_;obtain⟨t,rfl,g1⟩:=oW g1;cases r1;refine⟨t,rfl,?_⟩;cases t with
 | true=>exact qj ⟨M1,ρ,S1,s1,g1⟩
 | false=>exact qE (aw.now g1 s1.con (.bl _))
theorem NX {r:List Expr}(ha:PE X a (tE X.K W E ca))(hb:PE X (.BoolOp .Or (b::r) pos) (tE X.K W E cb)):PE X (.BoolOp .Or (a::b::r) pos) (tE X.K W E (RF.G4 ca cb)):=by
 refine(NZ ha hb).imp λσ H Q ⟨M,ρ,S,s,g⟩=>?_;refine bH s g λM1 H1 x u S1 s1 u1 r1 g1=>?_;obtain⟨t,rfl,g1⟩:=oW g1;cases r1;refine⟨t,rfl,?_⟩;cases t with
 | true=>exact qj (aw.now g1 s1.con (.bl _))
 | false=>exact qE ⟨M1,ρ,S1,s1,g1⟩
theorem N7 {ct:RF.C Bool}(hc:PT X c (tT X.K W E ct))(ha:PE X a (tE X.K W E ca))(hb:PE X b (tE X.K W E cb)):PE X (.IfExp c a b pos) (tE X.K W E (RF.mG ct ca cb)):=by
 refine(Fd hc ha hb).imp λσ H Q ⟨M,ρ,S,s,g⟩=>?_;refine bH s g λM1 H1 x u S1 s1 u1 r1 g1=>?_;subst r1;cases x with
 | true=>exact qj ⟨M1,ρ,S1,s1,g1⟩
 | false=>exact qE ⟨M1,ρ,S1,s1,g1⟩
theorem Ii {ct:RF.C Bool}(ha:PT X a (tT X.K W E ct)):PT X (.UnaryOp .Not a pos) (tT X.K W E (RF.df ct)):=by refine(Lx ha).imp λσ H Q ⟨M,ρ,S,s,g⟩=>?_;refine bH s g λM1 H1 x u S1 s1 u1 r1 g1=>?_;subst r1;exact aw.now g1 s1.con rfl
theorem Jy {r:List Expr}{ct cu:RF.C Bool}(ha:PT X a (tT X.K W E ct))(hb:PW X (.BoolOp .And (b::r) pos) (tT X.K W E cu)):PW X (.BoolOp .And (a::b::r) pos) (tT X.K W E (RF.iH ct cu)):=by
 refine(LL ha hb).imp λσ H Q ⟨M,ρ,S,s,g⟩=>?_;refine bH s g λM1 H1 x u S1 s1 u1 r1 g1=>?_;subst r1;cases x with
 | true=>exact qj ⟨M1,ρ,S1,s1,g1⟩
 | false=>exact qE (aw.now g1 s1.con rfl)
theorem Mv {r:List Expr}{ct cu:RF.C Bool}(ha:PT X a (tT X.K W E ct))(hb:PW X (.BoolOp .Or (b::r) pos) (tT X.K W E cu)):PW X (.BoolOp .Or (a::b::r) pos) (tT X.K W E (RF.jf ct cu)):=by
 refine(NL ha hb).imp λσ H Q ⟨M,ρ,S,s,g⟩=>?_;refine bH s g λM1 H1 x u S1 s1 u1 r1 g1=>?_;subst r1;cases x with
 | true=>exact qj (aw.now g1 s1.con rfl)
 | false=>exact qE ⟨M1,ρ,S1,s1,g1⟩
theorem Ir {K:Fg}{M:List Addr}{S:ae}{H:Hp}(cn:Cn K W M S H){x:D}{u:V}{t:Bool}(r:au M H x u)(h:RF.lg S x=some t):Fv K u H t:=by
 cases r with
 | aj=>cases h;rfl
 | bl b=>cases h;rfl
 | int i=>cases h;rfl
 | str z=>cases h
 | tup ha hx=>cases h;exact .inr (.inl ⟨_,cy.of ha,by rw[hx.gT]⟩)
 | ref hm=>
  rename_i n p;simp only[RF.lg] at h;split at h
  .rename_i xs hS;cases h;obtain⟨vs,h1,h2⟩:=cn.lst hS hm;exact .inl ⟨vs,cm.of h1,by rw[h2.gT]⟩
  .rename_i xs hS;cases h;obtain⟨vs,h1,h2⟩:=cn.at_ n _ p hS hm;exact .inl ⟨vs,h1.sq,by rw[h2.gT]⟩
  .cases h
theorem IP (ha:PE X a (tE X.K W E ca))(he:∀whole,isTrue a X.env whole=(do let v <-whole;standAt a.pos;holding [v] (truthy v))):PT X a (tT X.K W E (RF.cw ca)):=by
 refine(E5 ha he).imp λσ H Q ⟨M,ρ,S,s,g⟩=>?_;refine bH s g λM1 H1 x u S1 s1 u1 r1 g1=>?_;unfold RF.truthOf at g1;split at g1
 .rename_i t ht;exact⟨t,Ir s1.con r1 ht,aw.now g1 s1.con rfl⟩
 .exact g1.elim
theorem e8 {f:Expr->RF.C D}:∀{es:List Expr},(∀e∈es,PE X e (tE X.K W E (f e)))->es.all RF.aL=true->PA X es (tA X.K W E (RF.bX (es.map f)))
 | [],_,_=>gF.imp λσ H Q ⟨M,ρ,S,s,g⟩=>aw.now g s.con .nil
 | e::es,h,hp=>by simp only[List.all_cons,Bool.and_eq_true] at hp;refine(dQ (h e List.mem_cons_self) (e8 (λe' he'=>h e' (List.mem_cons_of_mem _ he')) hp.2) (aC hp.1)).imp λσ H Q ⟨M,ρ,S,s,g⟩=>?_;refine bH s g λM1 H1 x u S1 s1 u1 r1 g1=>bH s1 g1 λM2 H2 xs us S2 s2 u2 r2 g2=>?_;exact aw.now g2 s2.con (.cons (r1.up u2) r2)
theorem qO {cs:List (RF.C D)}{ρ:RF.Env}{S S':ae}{xs:List D}(h:RF.bX cs ρ S = .ok xs S'):xs.length=cs.length:=by
 induction cs generalizing S S' xs with
 | nil=>cases h;rfl
 | cons c cs ih=>
  unfold RF.bX at h;cases e:c ρ S with
  | ok x S1=>
   rw[e,RF.R.bJ] at h;cases e2:RF.bX cs ρ S1 with
   | ok ys S2=>rw[e2,RF.R.bJ] at h;cases h;simp[ih e2]
   | bad=>rw[e2] at h;cases h
  | bad=>rw[e] at h;cases h
theorem MM {f:Expr->RF.C D}{es:List Expr}{kk:Nat}(h:∀e∈es,PE X e (tE X.K W E (f e)))(hp:es.all RF.aL=true):PE X (.Tuple es kk pos) (tE X.K W E (RF.bp (es.map f))):=by
 refine(DF (e8 h hp)).imp λσ H Q ⟨M,ρ,S,s,g⟩=>?_;obtain⟨hz,g⟩:=aw.guard g;have hz:(es.map f).length<=sizeLine:=of_decide_eq_true hz;refine⟨M,ρ,S,s,?_⟩;cases e:RF.bX (es.map f) ρ S with
 | ok xs S1=>rw[e,RF.R.bJ] at g;intro M1 H1 us c1 u1 r1;refine⟨by rw[<-r1.length,qO e];exact hz,λp hp=>?_⟩;exact aw.at_ (g.up u1) (c1.fresh hp) (bP hp) (.tup aA (r1.up (bP hp)))
 | bad=>rw[e] at g;exact g
theorem Mu {f:Expr->RF.C D}{es:List Expr}(h:∀e∈es,PE X e (tE X.K W E (f e)))(hp:es.all RF.aL=true):PE X (.List es pos) (tE X.K W E (RF.aR (es.map f))):=by
 refine(L9 (e8 h hp)).imp λσ H Q ⟨M,ρ,S,s,g⟩=>?_;obtain⟨hz,g⟩:=aw.guard g;have hz:(es.map f).length<=sizeLine:=of_decide_eq_true hz;refine⟨M,ρ,S,s,?_⟩;cases e:RF.bX (es.map f) ρ S with
 | ok xs S1=>rw[e,RF.R.bJ] at g;intro M1 H1 us c1 u1 r1;exact⟨by rw[<-r1.length,qO e];exact hz,iP (g.up u1) c1 r1⟩
 | bad=>rw[e] at g;exact g
theorem Ib:PE X (.Dict [] [] pos) (tE X.K W E RF.jD):=
 F9.imp λσ H Q ⟨M,ρ,S,s,g⟩ p hp=>aw.at_ g (s.con.new hp rfl (.inr ⟨[],aA,.nil⟩)) (i6 hp) (n8 s.con)
end
end L2
namespace L2
open PySem PySem.Spec PyProof.Rows
open RF (D O ae Tab)
section
variable {K:Fg}{W:bw}{M M1 M2:List Addr}{S S1 S2:ae}{H H1 H2:Hp}{ρ:RF.Env}{σ:St}{E:XK}
theorem dG {α β:Type}{rel:List Addr->Hp->α->β->Prop}{c:RF.C α}{x:α}{Q1:β->Hp->Prop}(s:Sm K W M S H ρ σ)(e:c ρ S = .ok x S1)(k:∀M1 H1 u,Sm K W M1 S1 H1 ρ σ->Up M H M1 H1->rel M1 H1 x u->Q1 u H1):tG K W rel E c σ H Q1:=
 ⟨M,ρ,S,s,by rw[e];exact λM1 H1 u c1 u1 r1=>k M1 H1 u (s.to c1 u1) u1 r1⟩
end
section
variable {X:Cx}{W:bw}{Γ:RF.Gm}{E:XK}{cl:RF.Calls}{k:Nat}{a b c e:Expr}{ca cb cc:RF.C D}{pos:Pos}
theorem IV {M:List Addr}{H:Hp}{xs:List D}{vs:List V}(r:ay M H xs vs){i:Int}{d:D}(h:RF.j9 xs i=some d):∃v,zj vs i=some v/\au M H d v:=by
 unfold RF.j9 at h;unfold zj;obtain⟨j,h1,h2⟩:=Option.bind_eq_some_iff.mp h;obtain⟨v,g1,g2⟩:=r.get h2;refine⟨v,?_,g2⟩;have:zo vs.length i=some j:=by rw[<-r.length];exact h1
 rw[this];exact g1
theorem Jr {i:Expr}(h:RF.eY i=true):∀ov iv,subscripted i false ov iv=operate [ov,iv] (getItem ov iv):=by intro ov iv;cases i<;>first | rfl | (simp[RF.eY] at h)
def Lv:R2:=λx y H Q=>∃a v,x = .ref a/\iM H a y (some v)/\Q v H
theorem Iy (hu:X.A.units+1<cLine):uz X Lv:=by intro value slice pins s σ H x y v u Q I rx ry h hs;obtain⟨a,w',rfl,g,q⟩:=h;cases rx;exact tail_any (yD I g) PySem.F.slot_dict_getitem.lookup (CP hu I g ry λz s3 I3 rz=>⟨w',H,I3,rz,q⟩) hs
def Ki (K:Fg):R2:=λx y H Q=>Lv x y H Q\/M9 K x y H Q\/Mi K x y H Q
theorem Ox:eQ X W E RF.dj (Ki X.K):=by
 intro M S H x y u v Q cn rx ry g;unfold RF.dj at g;split at g
 .split at g
  .rename_i hd d hl;obtain⟨p,H',o,e,hr,c',u',dg,z⟩:=xb cn rx ry hl;rcases z with⟨z,_⟩|⟨d',w,z1,rfl,z3⟩
   .cases z
   .cases z1;rcases hr with rfl | hr
    .exact .inl ⟨p,w,e,dg,aw.now g cn z3⟩
    .exfalso;rcases hr with⟨q,rfl⟩|⟨q,rfl⟩
     .rcases dg with⟨af,kk,q1,_,q3⟩|⟨af,kk,bb,q1,_,_,q3⟩
      .rcases q1 with q1 | ⟨_,q1⟩<;>(rw[aA] at q1;cases q1)
      .rcases q1 with q1 | ⟨_,q1⟩<;>(rw[aA] at q1;cases q1)
       cases q3
     .rcases dg with⟨af,kk,q1,_,q3⟩|⟨af,kk,bb,q1,_,_,q3⟩
      .rcases q1 with q1 | ⟨_,q1⟩<;>(rw[aA] at q1;cases q1)
       cases q3
      .rcases q1 with q1 | ⟨_,q1⟩<;>(rw[aA] at q1;cases q1)
  .exact g.elim
 .split at g
  .rename_i xs i hi;split at g
   .rename_i d hd;cases ry;obtain⟨p,vs,rfl,hs,hv⟩:=ma cn hi rx;obtain⟨w,e1,e2⟩:=IV hv hd;rcases hs with hs | hs
    .exact .inr (.inl ⟨p,vs,i,w,rfl,rfl,hs,e1,aw.now g cn e2⟩)
    .exact .inr (.inr ⟨p,vs,i,w,rfl,rfl,hs,e1,aw.now g cn e2⟩)
   .exact g.elim
  .exact g.elim
theorem Oh (C:bT X W Γ E cl k)(ha:PE X a (tE X.K W E ca))(hb:PE X b (tE X.K W E cb))(hs:RF.eY b=true):PE X (.Subscript a b pos) (tE X.K W E (RF.bQ ca cb)):=
 (NR (r:=Ki X.K) ((Iy C.CY).or (Jm.or Kt)) ha hb (Jr hs)).imp λ_ _ _ h=>GI Ox h
theorem yT {M:List Addr}{H:Hp}{xs:List D}{vs:List V}(r:ay M H xs vs)(lo hi:Option Int):ay M H (RF.cutD xs lo hi) (mB vs lo hi):=by unfold RF.cutD mB;rw[<-r.length];exact(r.drop _).take _
theorem zK {f:Expr->RF.C D}{o:Option Expr}(h:∀e∈o,PE X e (tE X.K W E (f e))):PO X o (tG X.K W (λ_ _ x y=>x=y) E (RF.tj (o.map f))):=by
 cases o with
 | none=>intro pins s σ H Q I ⟨M,ρ,S,sm,g⟩;exact JK pins s σ H Q I (aw.now g sm.con rfl)
 | some e=>
  intro pins s σ H Q I ⟨M,ρ,S,sm,g⟩;refine HY (h e rfl) pins s σ H Q I ?_;refine bH sm g λM1 H1 x u S1 s1 u1 r1 g1=>?_;cases x with
  | int i=>cases r1;exact⟨i,rfl,aw.now g1 s1.con rfl⟩
  | _=>exact g1.elim
theorem Er {f:Expr->RF.C D}{lo hi:Option Expr}{p2:Pos}(ha:PE X a (tE X.K W E ca))(hl:∀e∈lo,PE X e (tE X.K W E (f e)))(hh:∀e∈hi,PE X e (tE X.K W E (f e))):
 PE X (.Subscript a (.Slice lo hi none p2) pos) (tE X.K W E (RF.j5 ca (lo.map f) (hi.map f))):=by
 refine(FL (Ik.or Ju) ha (zK hl) (zK hh)).imp λσ H Q ⟨M,ρ,S,s,g⟩=>?_;refine bH s g λM1 H1 x u S1 s1 u1 r1 g1=>bH s1 g1 λM2 H2 l l' S2 s2 u2 r2 g2=>bH s2 g2 λM3 H3 h h' S3 s3 u3 r3 g3=>?_;subst r2 r3;have rx:=(r1.up u2).up u3;unfold RF.nO at g3;split at g3
 .obtain⟨p,vs,rfl,hp,hv⟩:=cA rx;refine .inl ⟨p,vs,rfl,cy.of hp,λz=>?_,λ_ q hq=>?_⟩
  .rename_i ya;rw[<-hv.length] at z;have z1:=z.1;have z2:=z.2
   change RF.a9 _ 0 _=0 at z1
   change RF.a9 _ _ _=_ at z2
   have e:RF.cutD ya l h=ya:=by unfold RF.cutD;rw[z1,z2];simp
   rw[e] at g3;exact aw.now g3 s3.con (.tup hp hv)
  .exact aw.at_ g3 (s3.con.fresh hq) (bP hq) (.tup aA ((yT hv l h).up (bP hq)))
 .rename_i n;split at g3
  .rename_i xs hi;obtain⟨p,rfl,e⟩:=bC rx;obtain⟨vs,h1,h2⟩:=s3.con.items hi e;exact .inr ⟨p,vs,rfl,h1,iP g3 s3.con (yT h2 l h)⟩
  .exact g3.elim
 .exact g3.elim
theorem vT {K:Fg}{M:List Addr}{H:Hp}{W:bw}{cc:Nat}(nd:W.T.cJ.Nodup){fs:List (Nat×D)}{gs:List (Str×V)}(h:Paired (λ(p:Nat×D) (q:Str×V)=>(W.T.cJ[p.1]?=some q.1/\W.T.plain cc p.1=true)/\au M H p.2 q.2) fs gs){f:Nat}{x:Str}(hx:W.T.cJ[f]?=some x):
 (fs.lookup f=none/\gs.lookup x=none)\/∃d v,fs.lookup f=some d/\gs.lookup x=some v/\au M H d v/\W.T.plain cc f=true:=by
 induction h with
 | nil=>exact .inl ⟨rfl,rfl⟩
 | @cons p q fs gs r t ih=>
  obtain⟨pf,pd⟩:=p;obtain⟨qf,qv⟩:=q;obtain⟨⟨r1,r2⟩,r3⟩:=r
  by_cases e:f=pf
  .subst e;have e2:x=qf:=Option.some.inj (hx.symm.trans r1);subst e2;exact .inr ⟨pd,qv,by simp[List.lookup],by simp[List.lookup],r3,r2⟩
  .have e2:¬x=qf:=λz=>e (by subst z;exact(List.getElem?_inj (List.getElem?_eq_some_iff.mp hx).1 nd).mp (hx.trans r1.symm));have b1:(f==pf)=false:=by simpa using e
   have b2:(x==qf)=false:=by simpa using e2
   simp only[List.lookup,b1,b2];exact ih
theorem Lj (C:bT X W Γ E cl k){f:Str}{i:Nat}(ha:PE X a (tE X.K W E ca))(hi:RF.bY W.T.cJ f=some i)(hb:RF.ji a=true):PE X (.Attribute a f pos) (tE X.K W E (RF.aH ca i)):=by
 refine(KL ha (fG hb)).imp λσ H Q ⟨M,ρ,S,s,g⟩=>?_;refine bH s g λM1 H1 x u S1 s1 u1 r1 g1=>?_;unfold RF.nc at g1;split at g1
 .rename_i n;split at g1
  .rename_i cc fs hS;split at g1
   .rename_i d hd;obtain⟨p,rfl,e⟩:=bC r1;obtain⟨dx,gs,h1,hc,h2⟩:=s1.con.at_ n _ p hS e;rcases vT (K:=X.K) s1.con.sM h2 (cG hi) with⟨z,_⟩|⟨d',v,z1,z2,z3,z4⟩
    .rw[z] at hd;cases hd
    .rw[z1] at hd;cases hd;exact⟨p,W.c cc,dx,gs,v,rfl,h1,C.top.x9 cc hc,C.top.plain cc i f hc z4 (cG hi),z2,aw.now g1 s1.con z3⟩
   .exact g1.elim
  .exact g1.elim
 .exact g1.elim
def F0:RF.Kd->String
 | .int=>"int" | .bool=>"bool" | .str=>"str" | .tuple=>"tuple" | .list=>"list"
def MZ:RF.Kd->Kn->Bool
 | .int=>isInt | .bool=>LN | .str=>isStr | .tuple=>isTup | .list=>Hr
theorem KZ (K:Fg)(d:RF.Kd)(n:Kn):PySem.W.kitOne K (.type n.ty) (.type (F0 d))=some (MZ d n):=by
 cases d with
 | int=>exact HP K n
 | bool=>exact Ge K n
 | str=>exact Im K n
 | tuple=>exact kit_tuple K n
 | list=>exact Ga K n
theorem MN {K:Fg}{M:List Addr}{S:ae}{H:Hp}(cn:Cn K W M S H){d:RF.Kd}{x:D}{u:V}{t:Bool}(r:au M H x u)(h:RF.mI S d x=some t):∃n,kN K H u n/\t=MZ d n:=by
 cases r with
 | aj=>cases h;exact⟨.aj,Kv,by cases d<;>rfl⟩
 | bl b=>cases h;exact⟨.bl,N1 b,by cases d<;>rfl⟩
 | int i=>cases h;exact⟨.int,Lo i,by cases d<;>rfl⟩
 | str z=>cases h;exact⟨.str,KC z,by cases d<;>rfl⟩
 | tup ha hx=>cases h;exact⟨.tup,M8 ha,by cases d<;>rfl⟩
 | ref hm=>
  simp only[RF.mI] at h;split at h
  .rename_i xs hS;cases h;obtain⟨vs,h1,h2⟩:=cn.lst hS hm;exact⟨.lst,Ly h1,by cases d<;>rfl⟩
  .cases h
theorem Nu {t:Str}{d:RF.Kd}(h:RF.kdOf t=some d):t∈cD/\bootBuiltins t=some (.type (F0 d))/\t ≠ "__name__":=by
 unfold RF.kdOf at h;split at h
 .rename_i e;cases h;subst e;exact⟨by simp[cD],boot_int,by decide +kernel⟩
 .split at h
  .rename_i e;cases h;subst e;exact⟨by simp[cD],boot_bool,by decide +kernel⟩
  .split at h
   .rename_i e;cases h;subst e;exact⟨by simp[cD],boot_str,by decide +kernel⟩
   .split at h
    .rename_i e;cases h;subst e;exact⟨by simp[cD],boot_tuple,by decide +kernel⟩
    .split at h
     .rename_i e;cases h;subst e;exact⟨by simp[cD],boot_list,by decide +kernel⟩
     .cases h
theorem MA (C:bT X W Γ E cl k){t:Str}{d:RF.Kd}{pt pf:Pos}(hg:RF.fb Γ "isinstance" = true)(z5:RF.fb Γ t=true)(hd:RF.kdOf t=some d)(ha:PE X a (tE X.K W E ca))(hp:RF.aL a=true):
 PE X (.Call (.Name "isinstance" pf) [a,.Name t pt] [] pos) (tE X.K W E (RF.lN d ca)):=by
 obtain⟨k1,k2,k3⟩:=Nu hd;obtain⟨g1,g2⟩:=C.gl z5;refine(iK (CF (KZ X.K d)) (C.gl hg).1 (C.top.blt _ (by simp[cD])) boot_isinstance (dQ ha (dQ (IS (v:=.ty (F0 d)) g1 (C.top.blt t k1) k2 rfl k3 g2) gF (aC rfl)) (aC hp)) (by decide +kernel) (C.gl hg).2 (aC hp) (bM rfl)).imp λσ H Q ⟨M,ρ,S,s,g⟩=>?_;refine bH s g λM1 H1 x u S1 s1 u1 r1 g1=>?_;obtain⟨t',ht,q⟩:=sQ g1 s1.con;obtain⟨n,h1,h2⟩:=MN s1.con r1 ht;subst h2;exact⟨u,n,rfl,h1,q⟩
end
end L2
namespace L2
open PySem PySem.Spec PyProof.Rows
open RF (D O ae Tab)
section
variable {X:Cx}{W:bw}{Γ:RF.Gm}{E:XK}{cl:RF.Calls}{k:Nat}{a b c e:Expr}{ca cb cc:RF.C D}{pos:Pos}
def y6 (X:Cx)(W:bw)(E:XK)(f:List D->ae->RF.R D)(r:List V->Hp->VK->Prop):Prop:=∀(M:List Addr) (S:ae) (H:Hp) (xs:List D) (us:List V) (Q:VK),Cn X.K W M S H->ay M H xs us->aw X.K W au E M H (f xs S) Q->r us H Q
theorem oK {f:List D->ae->RF.R D}{r:List V->Hp->VK->Prop}(h:y6 X W E f r){cs:List (RF.C D)}{σ:St}{H:Hp}{Q:VK}(hq:tE X.K W E (RF.ao f cs) σ H Q):Mj r (tA X.K W E (RF.bX cs)) σ H Q:=by obtain⟨M,ρ,S,s,g⟩:=hq;exact bH s g λM1 H1 xs us S1 s1 u1 r1 g1=>h M1 S1 H1 xs us Q s1.con r1 g1
theorem my {M:List Addr}{H:Hp}{x:D}{us:List V}(r:ay M H [x] us):∃u,us=[u]/\au M H x u:=by cases r with | cons h hs=>cases hs;exact⟨_,rfl,h⟩
theorem vy {M:List Addr}{H:Hp}{x y:D}{us:List V}(r:ay M H [x,y] us):∃u v,us=[u,v]/\au M H x u/\au M H y v:=by cases r with | cons h hs=>cases hs with | cons h2 hs=>cases hs;exact⟨_,_,rfl,h,h2⟩
theorem CC {M:List Addr}{H:Hp}{xs:List D}{vs:List V}{bs:List Bool}(r:ay M H xs vs)(h:RF.bools xs=some bs):vs=bs.map V.bl:=by
 induction xs generalizing vs bs with
 | nil=>cases h;cases r;rfl
 | cons x xs ih=>
  cases r with
  | cons h1 h2=>
   cases x with
   | bl t=>simp only[RF.bools] at h;obtain⟨bs',e1,e2⟩:=Option.map_eq_some_iff.mp h;subst e2;cases h1;rw[ih h2 e1];rfl
   | _=>cases h
def GK (K:Fg):List V->Hp->VK->Prop:=λxs H Q=>(∃x n,xs=[x]/\MR K x H n/\Q (.int n) H)\/(∃a af,xs=[V.ref a]/\Rd H a (.dT af)/\Q (.int (af.length:Nat)) H)\/∃a af,xs=[V.ref a]/\Rd H a (.dK af)/\Q (.int (af.length:Nat)) H
theorem DD:dt X (.builtin "len") (λxs H Q=>∃a af,xs=[V.ref a]/\Rd H a (.dK af)/\Q (.int (af.length:Nat)) H):=by intro pins s σ H xs us Q I r h;obtain⟨a,af,rfl,ha,q⟩:=h;obtain⟨u,rfl,ru⟩:=vals1 r;cases ru;exact Om I ha λt s' I'=>⟨.int af.length,H,I',⟨t,rfl⟩,q⟩
theorem Cm:dt X (.builtin "len") (GK X.K):=F5.or (Dp.or DD)
theorem LP:y6 X W E (RF.bV .len) (GK X.K):=by
 intro M S H xs us Q cn r g
 match xs,r,g with
 | [x],r,g=>
  simp only[RF.bV] at g;split at g
  .rename_i n hn;obtain⟨u,rfl,ru⟩:=my r;have q:=aw.now g cn (.int _);unfold RF.oj at hn;split at hn
   .split at hn
    .cases hn;cases ru;exact .inl ⟨_,_,rfl,⟨by assumption,rfl⟩,q⟩
    .cases hn
   .split at hn
    .rename_i af hk;cases hn;obtain⟨m,p,rfl,rfl,_,h⟩:=cn.af hk ru;rcases h with⟨ks,h1,h2⟩|⟨ts,h1,h2⟩
     .exact .inr (.inr ⟨p,ks,rfl,h1,by rw[<-Paired.length h2];exact q⟩)
     .exact .inr (.inl ⟨p,ts,rfl,h1,by rw[<-Paired.length h2];exact q⟩)
    .obtain⟨ys,hy,e⟩:=Option.map_eq_some_iff.mp hn;subst e;obtain⟨p,vs,rfl,hs,hv⟩:=ma cn hy ru;refine .inl ⟨_,_,rfl,?_,q⟩;rcases hs with hs | hs
     .exact .inl ⟨vs,hs,hv.length⟩
     .exact .inr ⟨vs,hs,hv.length⟩
  .exact g.elim
 | [],r,g=>exact g.elim
 | _::_::_,r,g=>exact g.elim
theorem M7:y6 X W E (RF.bV .max2) (λxs H Q=>∃i j,xs=[.int i,.int j]/\Q (.int (if j > i then j else i)) H):=by
 intro M S H xs us Q cn r g
 match xs,r,g with
 | [x,y],r,g=>
  obtain⟨u,v,rfl,ru,rv⟩:=vy r;cases x with
  | int i=>
   cases y with
   | int j=>cases ru;cases rv;exact⟨_,_,rfl,aw.now g cn (.int _)⟩
   | _=>exact g.elim
  | _=>exact g.elim
 | [],r,g=>exact g.elim
 | [x],r,g=>cases x<;>exact g.elim
 | x::y::_::_,r,g=>cases x<;>first | exact g.elim | (cases y<;>exact g.elim)
theorem K9:y6 X W E (RF.bV .min2) (λxs H Q=>∃i j,xs=[.int i,.int j]/\Q (.int (if j<i then j else i)) H):=by
 intro M S H xs us Q cn r g
 match xs,r,g with
 | [x,y],r,g=>
  obtain⟨u,v,rfl,ru,rv⟩:=vy r;cases x with
  | int i=>
   cases y with
   | int j=>cases ru;cases rv;exact⟨_,_,rfl,aw.now g cn (.int _)⟩
   | _=>exact g.elim
  | _=>exact g.elim
 | [],r,g=>exact g.elim
 | [x],r,g=>cases x<;>exact g.elim
 | x::y::_::_,r,g=>cases x<;>first | exact g.elim | (cases y<;>exact g.elim)
theorem Eh:y6 X W E (RF.bV .tuple) (λxs H Q=>∃p ys,xs=[.ref p]/\((cm X.K H p ys/\∀l,H l=none->Q (.ref l) (upd H l (.tup ys)))\/(cy X.K H p ys/\Q (.ref p) H))):=by
 intro M S H xs us Q cn r g
 match xs,r,g with
 | [x],r,g=>
  obtain⟨u,rfl,ru⟩:=my r;simp only[RF.bV] at g;split at g
  .rename_i ys hy;cases x with
   | tup zs=>cases hy;obtain⟨p,vs,rfl,hp,hv⟩:=cA ru;exact⟨p,vs,rfl,.inr ⟨cy.of hp,aw.now g cn (.tup hp hv)⟩⟩
   | ref n=>obtain⟨p,rfl,e⟩:=bC ru;obtain⟨vs,h1,h2⟩:=cn.items hy e;exact⟨p,vs,rfl,.inl ⟨h1,λl hl=>aw.at_ g (cn.fresh hl) (bP hl) (.tup aA (h2.up (bP hl)))⟩⟩
   | _=>cases hy
  .exact g.elim
 | [],r,g=>exact g.elim
 | _::_::_,r,g=>exact g.elim
def Mq (K:Fg):List V->Hp->VK->Prop:=λxs H Q=>(∃p ys,xs=[.ref p]/\(cm K H p ys\/cy K H p ys)/\∀l,H l=none->Q (.ref l) (upd H l (.lst ys))) \/
 ∃a af,xs=[V.ref a]/\Rd H a (.dT af)/\∀l ys,H l=none->ys.length=af.length->(∀(i:Nat) p,af[i]?=some p->∃b,ys[i]?=some (V.ref b)/\H b=some (.tup (p.1.map kV)))->Q (.ref l) (upd H l (.lst ys))
theorem CQ (M:List Addr)(H:Hp)(ks:List Key):ay M H (ks.map dB) (ks.map kV):=by
 induction ks with
 | nil=>exact .nil
 | cons k ks ih=>exact .cons (Ci M H k) ih
theorem Fj {M:List Addr}{H:Hp}{af:List (D×D)}{ts:List (List Key×V)}(h:Paired (bZ ofKeys M H) af ts){ys:List V}(hl:ys.length=ts.length)(hy:∀(i:Nat) p,ts[i]?=some p->∃b,ys[i]?=some (V.ref b)/\H b=some (.tup (p.1.map kV))):ay M H (af.map (·.1)) ys:=by
 induction h generalizing ys with
 | nil=>cases ys with | nil=>exact .nil | cons=>simp at hl
 | @cons p q af ts r t ih=>
  cases ys with
  | nil=>simp at hl
  | cons y ys=>
   obtain⟨b,e1,e2⟩:=hy 0 q rfl;have e1:y = .ref b:=by simpa using e1
   subst e1;refine .cons ?_ (ih (by simpa using hl) λi p' hp=>?_)
   .show au M H p.1 _;rw[r.1];exact .tup e2 (CQ M H q.1)
   .obtain⟨b',g1,g2⟩:=hy (i+1) p' (by simpa using hp);exact⟨b',by simpa using g1,g2⟩
theorem JE:y6 X W E (RF.bV .list) (Mq X.K):=by
 intro M S H xs us Q cn r g
 match xs,r,g with
 | [x],r,g=>
  obtain⟨u,rfl,ru⟩:=my r;simp only[RF.bV] at g;split at g
  .rename_i af hk;obtain⟨hf,g⟩:=aw.guard g;rw[Bool.and_eq_true] at hf;obtain⟨n,p,rfl,rfl,e,h⟩:=cn.af hk ru;rcases h with⟨ks,h1,h2⟩|⟨ts,h1,h2⟩
   .have:=all_nil (g6 h2) hf.1 (λk=>gE);subst this;cases hf.2
   .exact .inr ⟨p,ts,rfl,h1,λl ys hl h3 h4=>iP g cn (Fj h2 h3 h4) l hl⟩
  .split at g
   .rename_i ys hy;obtain⟨p,vs,rfl,hs,hv⟩:=ma cn hy ru;exact .inl ⟨p,vs,rfl,hs,iP g cn hv⟩
   .exact g.elim
 | [],r,g=>exact g.elim
 | _::_::_,r,g=>exact g.elim
theorem ux {M:List Addr}{H:Hp}:∀{xs:List D} {vs:List V} {is:List Int},ay M H xs vs->RF.iR xs=some is->vs=is.map V.int
 | [],_,_,.nil,h=>by cases h;rfl
 | .int i::r,_,is,.cons h hs,e=>by have e:(RF.iR r).map (i :: ·)=some is:=e;obtain⟨js,e1,rfl⟩:=Option.map_eq_some_iff.mp e;cases h;rw[ux hs e1];rfl
 | .aj::_,_,_,_,e | .bl _::_,_,_,_,e | .str _::_,_,_,_,e | .tup _::_,_,_,_,e | .ref _::_,_,_,_,e=>by cases e
theorem rN (C:bT X W Γ E cl k){x:Str}{bb:RF.B}{f:Expr->RF.C D}{es:List Expr}{pf:Pos}(hb:RF.wJ x es.length=some bb)(hg:RF.fb Γ x=true)(h:∀e∈es,PE X e (tE X.K W E (f e)))(hp:es.all RF.aL=true):
 PE X (.Call (.Name x pf) es [] pos) (tE X.K W E (RF.ao (RF.bV bb) (es.map f))):=by
 obtain⟨g1,g2⟩:=C.gl hg;have args:=e8 h hp;cases es with
 | nil=>unfold RF.wJ at hb;simp at hb
 | cons e es=>
  have m6:=hp;simp only[List.all_cons,Bool.and_eq_true] at hp;have st:starEach (e::es) X.env=(false,eval e X.env)::starEach es X.env:=aC hp.1;have pl:=bM (env:=X.env) (pos:=pos) hp.2;unfold RF.wJ at hb
  .split at hb
   .rename_i z;cases hb;obtain⟨rfl,_⟩:=z;exact(iK (C4 C.calm) g1 (C.top.blt _ (by simp[cD])) boot_max args (by decide +kernel) g2 st pl).imp λ_ _ _ q=>oK M7 q
   .split at hb
    .rename_i z;cases hb;obtain⟨rfl,_⟩:=z;exact(iK (CU C.calm) g1 (C.top.blt _ (by simp[cD])) boot_min args (by decide +kernel) g2 st pl).imp λ_ _ _ q=>oK K9 q
    .split at hb
     .rename_i z;cases hb;obtain⟨rfl,_⟩:=z;exact(kC mR g1 (C.top.blt _ (by simp[cD])) boot_tuple args (by decide +kernel) g2 st pl).imp λ_ _ _ q=>oK Eh q
     .split at hb
      .rename_i z;cases hb;obtain⟨rfl,_⟩:=z;exact(kC (wB.or (Ad C.calm)) g1 (C.top.blt _ (by simp[cD])) boot_list args (by decide +kernel) g2 st pl).imp λ_ _ _ q=>oK JE q
      .cases hb
theorem lD {K:Fg}{f:List D->ae->RF.R D}{n:Nat}{M:List Addr}{S:ae}{H:Hp}{xs:List D}{us:List V}{Q:VK}(cn:Cn K W M S H)(r:ay M H xs us)(hl:∀ds S,ds.length≠n->f ds S = .bad)(g:aw K W au E M H (f xs S) Q):nR K W f n us H Q E:=by refine⟨?_,M,S,xs,cn,r,g⟩;rw[<-r.length];exact Classical.byContradiction λz=>by rw[hl xs S z] at g;exact g
theorem HL (C:bT X W Γ E cl k){x:Str}{i:Nat}{f:Expr->RF.C D}{es:List Expr}{pf:Pos}(hi:RF.bY W.T.eg x=some i)(hg:RF.fb Γ x=true)(h:∀e∈es,PE X e (tE X.K W E (f e)))(hp:es.all RF.aL=true):
 PE X (.Call (.Name x pf) es [] pos) (tE X.K W E (RF.ao (cl.f i) (es.map f))):=by
 obtain⟨g1,g2⟩:=C.gl hg;have args:=e8 h hp;obtain⟨fa,fd,ps,F,hl,hm,hk,bd⟩:=C.top.fn x i hi;cases es with
 | nil=>refine(FN F (C.room.mono (Nat.le_succ k)) g1 hm hk bd .nil C.pass g2).imp λσ H Q ⟨M,ρ,S,s,g⟩=>?_;exact lD (xs:=[]) s.con .nil hl g
 | cons e es=>simp only[List.all_cons,Bool.and_eq_true] at hp;refine(Ie F (C.room.mono (Nat.le_succ k)) g1 hm hk bd .nil C.pass args g2 (aC hp.1) (bM hp.2)).imp λσ H Q ⟨M,ρ,S,s,g⟩=>?_;refine bH s g λM1 H1 xs us S1 s1 u1 r1 g1=>?_;rw[List.append_nil];exact lD s1.con r1 hl g1
theorem Mw {d:D}(h:RF.bI d=true)(M:List Addr)(H:Hp):au M H d (dV d):=by
 cases d with
 | aj=>exact .aj
 | bl b=>exact .bl b
 | int i=>exact .int i
 | str x=>exact .str x
 | _=>cases h
theorem zB {M:List Addr}{H:Hp}(x:Str):∀{ks:List Str} {zs:List D} {vs:List V},ay M H zs vs->((ks.zip zs).lookup x=none/\(ks.zip vs).lookup x=none)\/∃d v,(ks.zip zs).lookup x=some d/\(ks.zip vs).lookup x=some v/\au M H d v
 | [],_,_,_=>.inl ⟨by simp,by simp⟩
 | _::_,[],_,.nil=>.inl ⟨by simp,by simp⟩
 | k::ks,z::zs,v::vs,.cons h hs=>by
  simp only[List.zip_cons_cons,List.lookup_cons];cases e:(x==k) with
  | true=>exact .inr ⟨z,v,rfl,rfl,h⟩
  | false=>exact zB x hs
theorem wF {M:List Addr}{H:Hp}{ks:List Str}{zs:List D}{vs:List V}(r:ay M H zs vs):∀{kw:List (Str×D)},(∀p∈kw,RF.bI p.2=true)->ay M H (RF.oM kw ks zs) (Ae kw ks vs)
 | [],_=>.nil
 | p::kw,h=>by
  refine .cons ?_ (wF r λq hq=>h q (List.mem_cons_of_mem _ hq));show au M H (((ks.zip zs).lookup p.1).getD p.2) (((ks.zip vs).lookup p.1).getD (dV p.2));rcases zB p.1 (ks:=ks) r with⟨e1,e2⟩|⟨d,v,e1,e2,e3⟩
  .rw[e1,e2];exact Mw (h p List.mem_cons_self) M H
  .rw[e1,e2];exact e3
theorem zT (C:bT X W Γ E cl k){ps:List Str}{i c:Nat}{M1:List Addr}{S1:ae}{H1:Hp}{Q:VK}{xs:List D}{us:List V}{p dx:Addr}(m4:c<W.T.gf.length)(hl:∀ds S,ds.length≠ps.length->cl.m c i ds S = .bad)(c1:Cn X.K W M1 S1 H1)(r1:ay M1 H1 xs us)(hp:H1 p=none)(z6:H1 dx=none)(eJ:dx≠p)
 (g1:aw X.K W au E M1 H1 ((cl.m c i (.ref S1.length::xs) (S1++[.obj c []])).bind λr S3=>match r with | .aj=>.ok (.ref S1.length) S3 | _=>.bad) Q):
 nR X.K W (cl.m c i) ps.length (.ref p::us) (upd (upd H1 dx (.own p)) p (.ins (W.c c) dx [])) (λv H2=>v = .aj/\Q (.ref p) H2) E:=by
 have uW:upd H1 dx (.own p) p=none:=by rw[ax (Ne.symm eJ)];exact hp
 have c2:Cn X.K W M1 S1 (upd H1 dx (.own p)):=c1.fresh z6;have c3:Cn X.K W (M1++[p]) (S1++[.obj c []]) (upd (upd H1 dx (.own p)) p (.ins (W.c c) dx [])):=c2.new uW rfl ⟨dx,[],aA,m4,.nil⟩;have u3:Up M1 H1 (M1++[p]) (upd (upd H1 dx (.own p)) p (.ins (W.c c) dx [])):=(bP (M:=M1) z6).trans (i6 uW);refine lD (xs:=.ref S1.length::xs) c3 (.cons (n8 c1) (r1.up u3)) hl ?_;refine vV (g1.up u3) λM4 H4 d v S4 c4 u4 r4 g4=>?_;cases d with
 | aj=>cases r4;exact⟨rfl,aw.now g4 c4 ((n8 (H':=H4) c1).dW ⟨u4.pre,λb xs h=>h⟩)⟩
 | _=>exact g4.elim
theorem Iq {kws:List Keyword}{env:Env}{pos:Pos}:(kws.all λq=>q.arg.isSome)=true->(backToKw pos (keywordEach kws env)).all (·.1.isSome)=true/\(backToKw pos (keywordEach kws env)).filterMap (·.1)=kws.filterMap (·.arg)/\(backToKw pos (keywordEach kws env)).any (·.1.isNone)=false:=by
 induction kws with
 | nil=>intro _;exact⟨rfl,rfl,rfl⟩
 | cons q r ih=>
  intro h;simp only[List.all_cons,Bool.and_eq_true] at h;obtain⟨a,b,c⟩:=ih h.2;obtain⟨nm,v,p⟩:=q;cases nm with
  | none=>cases h.1
  | some n=>
   have e:backToKw pos (keywordEach (⟨some n,v,p⟩::r) env)=(some n,do let x <-eval v env;standAt pos;pure x)::backToKw pos (keywordEach r env):=rfl;rw[e];refine⟨?_,?_,?_⟩
   .rw[List.all_cons,a];rfl
   .rw[List.filterMap_cons,b];rfl
   .rw[List.any_cons,c];rfl
theorem DE {f:Expr->RF.C D}:∀{kws:List Keyword},(∀e,PE X e (tE X.K W E (f e)))->PK X kws (tA X.K W E (RF.bX (kws.map λq=>f q.value)))
 | [],_=>λpos pins s σ H Q I ⟨M,ρ,S,sm,g⟩=>Na pos pins s σ H Q I (aw.now g sm.con .nil)
 | ⟨nm,e,kp⟩::kws,h=>λpos pins s σ H Q I ⟨M,ρ,S,sm,g⟩=>H9 (h e) (DE h) pos pins s σ H Q I (bH sm g λM1 H1 x u S1 s1 u1 r1 g1=>bH s1 g1 λM2 H2 xs us S2 s2 u2 r2 g2=>aw.now g2 s2.con (.cons (r1.up u2) r2))
theorem jS.plain {K:Fg}{T:Tab}{c:Nat}{x:Str}{fd:FuncData}{ps:List Str}(h:jS K T c x fd ps)(n:x ≠ "__init__"):Binds K fd ps []:=h.elim (λz=>absurd z.1 n) λz=>z.2
theorem xi (C:bT X W Γ E cl k){x:Str}{i c:Nat}{f:Expr->RF.C D}{e:Expr}{es:List Expr}{kws:List Keyword}{pf:Pos}(hc:RF.bY W.T.gf x=some c)(hi:RF.bY W.T.cJ "__init__" = some i)(hM:W.T.aJ c i=true)(hk:W.T.dh c≠[])(hg:RF.fb Γ x=true)(h:∀e,PE X e (tE X.K W E (f e)))(hp:(e::es).all RF.aL=true)
 (h1:(kws.all λq=>q.arg.isSome)=true) (h2:((kws.filterMap (·.arg)).all λq=>(W.T.dh c).any λp=>decide (p.1=q))=true) (h3:(kws.filterMap (·.arg)).Nodup):
 PE X (.Call (.Name x pf) (e::es) kws pos) (tE X.K W E (RF.ia (cl.m c i) c ((e::es).map f) (W.T.dh c) (kws.filterMap (·.arg)) (kws.map λq=>f q.value))):=by
 obtain⟨g1,g2⟩:=C.gl hg;have args:=e8 (λe _=>h e) hp;obtain⟨fa,fd,ps,F,hl,hm,bd,mk,_⟩:=C.top.mt c i "__init__" hM (cG hi);have m4:c<W.T.gf.length:=(List.getElem?_eq_some_iff.mp (cG hc)).1;rcases bd with⟨_,_,hf,hb⟩|⟨z,_⟩
 .obtain⟨g,kb⟩:=hb _ h2 h3;simp only[List.all_cons,Bool.and_eq_true] at hp;obtain⟨k1,k2,k3⟩:=Iq (env:=X.env) (pos:=pos) h1;refine(FK (mk rfl) F C.room g1 (C.top.tP x c hc) kb C.pass args (DE h) k1 k2 g2 (aC hp.1) ?_).imp λσ H Q ⟨M,ρ,S,s,g⟩=>?_
  .rw[k3,Bool.or_false,aC hp.1];show (false||(backTo pos (starEach es X.env)).any (·.1))=false;rw[bM hp.2];rfl
  .refine bH s g λM1 H1 xs us S1 s1 u1 r1 g1=>bH s1 g1 λM2 H2 zs vs S2 s2 u2 r2 g2=>?_;intro p dx hp z6 eJ;show nR _ _ _ _ (.ref p::(us++Ae (W.T.dh c) (kws.filterMap (·.arg)) vs)) _ _ _;exact zT C m4 hl s2.con ((r1.up u2).append (wF r2 hf)) hp z6 eJ g2
 .exact absurd (z rfl) hk
theorem JB (C:bT X W Γ E cl k){x:Str}{i c:Nat}{f:Expr->RF.C D}{es:List Expr}{pf:Pos}(hc:RF.bY W.T.gf x=some c)(hi:RF.bY W.T.cJ "__init__" = some i)(hM:W.T.aJ c i=true)(hk0:W.T.dh c=[]\/es.isEmpty=false)(hg:RF.fb Γ x=true)(hA:∀e,PE X e (tE X.K W E (f e)))(hp:es.all RF.aL=true):
 PE X (.Call (.Name x pf) es [] pos) (tE X.K W E (RF.ia (cl.m c i) c (es.map f) (W.T.dh c) [] [])):=by
 by_cases hk:W.T.dh c=[]
 .obtain⟨g1,g2⟩:=C.gl hg;have args:=e8 (λe _=>hA e) hp;obtain⟨fa,fd,ps,F,hl,hm,bd,mk,_⟩:=C.top.mt c i "__init__" hM (cG hi);have m4:c<W.T.gf.length:=(List.getElem?_eq_some_iff.mp (cG hc)).1;have bd:Binds X.K fd ps []:=bd.elim (λz=>absurd hk z.2.1) λz=>z.2;have rd:∀(σ:St) (H:Hp) (Q:VK),tE X.K W E (RF.ia (cl.m c i) c (es.map f) (W.T.dh c) [] []) σ H Q->Bw (W.c c) (nR X.K W (cl.m c i) ps.length) [] E (tA X.K W E (RF.bX (es.map f))) σ H Q:=by
   intro σ H Q ⟨M,ρ,S,s,g⟩;refine bH s g λM1 H1 xs us S1 s1 u1 r1 g1=>?_;intro p dx hp z6 eJ;have e1:xs++RF.oM (W.T.dh c) [] []=xs:=by rw[hk];exact List.append_nil _
   have g1:aw X.K W au E M1 H1 ((cl.m c i (.ref S1.length::(xs++RF.oM (W.T.dh c) [] [])) (S1++[.obj c []])).bind _) Q:=g1;rw[e1] at g1;rw[List.append_nil];exact zT C m4 hl s1.con r1 hp z6 eJ g1
  cases es with
  | nil=>refine(Ek (mk rfl) F C.room g1 (C.top.tP x c hc) bd .nil C.pass g2).imp λσ H Q q=>?_;obtain⟨M,ρ,S,s,g⟩:=rd σ H Q q;exact aw.now g s.con .nil
  | cons e es=>simp only[List.all_cons,Bool.and_eq_true] at hp;exact(HS (mk rfl) F C.room g1 (C.top.tP x c hc) bd .nil C.pass args g2 (aC hp.1) (bM hp.2)).imp rd
 .cases es with
  | nil=>rcases hk0 with z | z;exact absurd z hk;cases z
  | cons e es=>exact xi (kws:=[]) C hc hi hM hk hg hA hp rfl rfl List.nodup_nil
theorem Kk (C:bT X W Γ E cl k){pf:Pos}(hg:RF.fb Γ "len" = true)(ha:PE X a (tE X.K W E ca))(hp:RF.aL a=true):PE X (.Call (.Name "len" pf) [a] [] pos) (tE X.K W E (RF.cX W.T.aJ cl.m (RF.bY W.T.cJ "__len__") ca)):=by obtain⟨g1,g2⟩:=C.gl hg;refine(iK (Cm) g1 (C.top.blt _ (by simp[cD])) PySem.boot_len (dQ ha gF (aC hp)) (by decide +kernel) g2 (aC hp) (bM rfl)).imp λσ H Q ⟨M,ρ,S,s,g⟩=>?_;exact bH s g λM1 H1 x u S1 s1 u1 r1 g=>LP M1 S1 H1 [x] [u] Q s1.con (.cons r1 .nil) g
theorem C9 (C:bT X W Γ E cl k){pf pg p2:Pos}(hg:RF.fb Γ "len" = true)(hs:RF.fb Γ "set" = true)(hb:PE X b (tE X.K W E cb))(hp:RF.aL b=true):
 PE X (.Call (.Name "len" pf) [.Call (.Name "set" pg) [b] [] p2] [] pos) (tE X.K W E (RF.pB cb)):=by
 obtain⟨g1,g2⟩:=C.gl hg;obtain⟨g3,g4⟩:=C.gl hs;have hIs:=iK (p:=pf) (pos:=pos) BP g1 (C.top.blt _ (by simp[cD])) PySem.boot_len (dQ (kC (pos:=p2) (p:=pg) (DI C.calm) g3 (C.top.blt _ (by simp[cD])) PyProof.Rows.boot_set (dQ hb gF (aC hp)) (by decide +kernel) g4 (aC hp) (bM rfl)) gF (aC rfl)) (by decide +kernel) g2 (aC rfl) (bM rfl);refine hIs.imp λσ H Q ⟨M,ρ,S,s,g⟩=>?_;have g:aw X.K W au E M H ((cb ρ S).bind λx S1=>RF.lu x S1) Q:=g;cases ev:cb ρ S with
 | bad=>rw[ev] at g;exact g.elim
 | ok x S1=>
  rw[ev,RF.R.bJ] at g;unfold RF.lu at g;cases x with
  | ref n=>
   dsimp only at g;split at g
   .rename_i xs hS;split at g
    .rename_i is e2;obtain⟨hz,g⟩:=aw.guard g;refine dG s ev λM1 H1 u s1 u1 r1=>?_;obtain⟨a,rfl,ea⟩:=bC r1;obtain⟨vs,q1,q2⟩:=s1.con.lst hS ea;rw[ux q2 e2] at q1;exact⟨a,is,rfl,cm.of q1,of_decide_eq_true hz,λp Sx hp=>⟨p,Sx,_,rfl,aA,aw.at_ g (s1.con.fresh hp) (u1.trans (bP hp)) (au.int _)⟩⟩
    .exact g.elim
   .exact g.elim
  | _=>exact g.elim
end
end L2
namespace HT
open PySem PySem.Spec PyProof.Rows
section
open PySem.SeqAt
open PySem.AutoSeq1 (wpAny_loadPart')
open PySem.MeetsSeq PySem.MeetsSeq2 PySem.MeetsSeq3
end
section
variable {prog:Program}{w:World}{A:Around}{E:Value->Sh->Prop}{s:Sh}
end
end HT
namespace HT
open PySem PySem.Spec PyProof.Rows
section
variable {prog:Program}{w:World}{A:Around}{E:Value->Sh->Prop}{s:Sh}
def ev {α:Type}(lt:Nat->Nat->Bool):W.KasT α->α
 | .ret a=>a
 | .ask i j k=>ev lt (k (lt i j))
end
end HT
namespace L2
open PySem PySem.Spec PyProof.Rows HT
section
variable {prog:Program}{w:World}{A:Around}{E:Value->Sh->Prop}{s:Sh}
end
end L2
namespace L2
open PySem PySem.Spec PyProof.Rows HT
section
variable {X:Cx}
end
end L2
namespace L2
open PySem PySem.Spec PyProof.Rows
section
variable {prog:Program}{w:World}{A:Around}{E:Value->Sh->Prop}{s:Sh}
end
section
variable {X:Cx}{pins:List (Addr×Obj)}{σ:St}{H:Hp}{s:Sh}
end
end L2
namespace L2
open PySem PySem.Spec PyProof.Rows
section
variable {X:Cx}
theorem CO:uh X "list.insert" (λx vs H Q=>∃(l:Addr) (xs:List V) (i:Nat) (y:V),x = .ref l/\vs=[.int i,y]/\H l=some (.lst xs)/\i<=xs.length/\xs.length<1000/\Q .aj (upd H l (.lst (xs.take i++y::xs.drop i)))):=by
 intro pins s σ H x vs v us Q I rx rv h;obtain⟨l,xs,i,y,rfl,rfl,hH,hi,hz,q⟩:=h;cases rx;obtain⟨u,u2,rfl,⟨t,rfl⟩,r2⟩:=rv.two;obtain⟨z,ai,n,r,hl,e⟩:=I.l9 hH;have hs:1000<=sizeLine:=by decide
 obtain⟨j,hj⟩:∃j:Int,(i:Int)=j:=⟨_,rfl⟩;rw[hj];have iQ:¬(!Builtin.List.listFitsIndex j)=true:=by
  have h63:((2:Int) ^ 63)=9223372036854775808:=by decide
  have:=fitsIndex_both (k:=j) (by rw[h63];omega) (by rw[h63];omega);rw[this];decide
 have hsz:ai.toArray.size<=sizeLine:=by rw[List.size_toArray,<-hl];exact z
 have hm:=AutoSeq1.list_insert_list_int_val_1 l ai.toArray n j t u2 iQ hsz;refine call_meets F.slot_list_insert ⟨_,e,rfl⟩ F.entry_list_insert (F.args_list_insert_3 _ _ _) hm ⟨e,?_⟩
 .refine⟨.aj,_,I.AD (its':=ai.take i++u2::ai.drop i) hH e ?_ ((r.take i).append (.cons r2 (r.drop i))) ?_,rfl,q⟩
  .have hn:¬j<0:=by omega
   have hjt:j.toNat=i:=by omega
   simp only[hn,if_false,hjt,List.size_toArray];rw[Nat.min_eq_left (by omega)];apply Array.toList_inj.mp;simp;exact List.take_of_length_le (by rw[List.length_drop];exact Nat.le_refl _)
  .rw[List.length_append,List.length_cons,List.length_take,List.length_drop];omega
end
section
variable {prog:Program}{w:World}{A:Around}{E:Value->Sh->Prop}{s:Sh}{κ:Type}[DecidableEq κ]{knd:HeapKind prog w κ}
end
end L2
namespace L2
open PySem PySem.Spec PyProof.Rows PySem.SeqAt
section
variable {X:Cx}
theorem zh {is:List Int}{ai:List Value}(r:Vals (is.map V.int) ai){j:Nat}{v:Value}(e:ai[j]?=some v):∃i t,is[j]?=some i/\v = .int i t:=by
 induction is generalizing ai j with
 | nil=>cases r;simp at e
 | cons i is ih=>
  cases r with
  | cons h t=>
   obtain⟨t0,rfl⟩:=h;cases j with
   | zero=>simp at e;exact⟨i,t0,rfl,e.symm⟩
   | succ j=>exact ih t (by simpa using e)
theorem Oo {α β:Type}(f:α->β)(l:List α)(j:Nat):(l.eraseIdx j).map f=(l.map f).eraseIdx j:=by
 induction l generalizing j with
 | nil=>rfl
 | cons x l ih=>cases j with
  | zero=>rfl
  | succ j=>simp[ih]
def Hb (i:Int):Value->Bool
 | .int a _=>a==i
 | _=>false
theorem Ao {xs:List V}{us:List Value}(r:Vals xs us)(j:Nat):Vals (xs.eraseIdx j) (us.eraseIdx j):=by
 induction r generalizing j with
 | nil=>simp;exact .nil
 | cons h t ih=>
  cases j with
  | zero=>exact t
  | succ j=>exact .cons h (ih j)
theorem DJ:uh X "list.remove" (λx vs H Q=>∃(l:Addr) (is:List Int) (i:Int),x = .ref l/\vs=[.int i]/\H l=some (.lst (is.map V.int))/\i∈is/\Q .aj (upd H l (.lst ((is.erase i).map V.int)))):=by
 intro pins s σ H x vs v us Q I rx rv h;obtain⟨l,is,i,rfl,rfl,hH,hi,q⟩:=h;cases rx;obtain⟨u,rfl,t,rfl⟩:=rv.one;obtain⟨z,ai,n,r,hl,e⟩:=I.l9 hH;have hlen:is.length=ai.length:=by rw[<-hl,List.length_map]
 have hj:is.idxOf i<is.length:=List.idxOf_lt_length_iff.mpr hi;have eqg:∀y∈ai.toArray,MeetsSeq.EqGives y (.int i t) (Hb i y):=by intro y hy;obtain⟨j,hj⟩:=List.getElem?_of_mem (show y∈ai by simpa using hy);obtain⟨k,t0,_,rfl⟩:=zh r hj;exact MeetsSeq.EqGives.int k i t0 t
 have at_:∀(m:Nat) (hm:m<ai.toArray.size),∃t0,ai.toArray[m] = .int (is[m]'(by rw[hlen];simpa using hm)) t0:=by
  intro m hm;have DV:m<ai.length:=by simpa using hm
  obtain⟨k,t0,e1,e2⟩:=zh r (j:=m) (List.getElem?_eq_getElem DV);refine⟨t0,?_⟩;have:is[m]'(by rw[hlen];exact DV)=k:=by rw[List.getElem?_eq_getElem (by rw[hlen];exact DV)] at e1;exact Option.some.inj e1
  rw[this];simpa using e2
 have DW:is.idxOf i<ai.toArray.size:=by rw[List.size_toArray,<-hlen];exact hj
 have h1:Hb i ai.toArray[is.idxOf i]=true:=by obtain⟨t0,e0⟩:=at_ _ DW;rw[e0];show (is[is.idxOf i]==i)=true;rw[List.getElem_idxOf hj];simp
 have h2:∀(m:Nat) (hm:m<ai.toArray.size),m<is.idxOf i->Hb i ai.toArray[m]=false:=by intro m hm eR;obtain⟨t0,e0⟩:=at_ _ hm;rw[e0];show (is[m]==i)=false;have:=List.not_of_lt_findIdx (p:=λy=>y==i) (xs:=is) eR;simpa using this
 refine call_meets F.slot_list_remove ⟨_,e,rfl⟩ F.entry_list_remove (F.args_list_remove_2 _ _) (MeetsSeq.list_remove l ai.toArray n (.int i t) (Hb i) eqg (is.idxOf i) DW h1 h2 (by rw[List.size_toArray,<-hl];exact z)) ⟨e,?_⟩;refine⟨.aj,_,I.AD (its':=ai.eraseIdx (is.idxOf i)) hH e ?_ ?_ ?_,rfl,q⟩
 .rw[Array.eraseIdxIfInBounds,dif_pos DW];simp
 .have:=Ao r (is.idxOf i);rw[<-Oo] at this;rw[List.erase_eq_eraseIdx_of_idxOf (i:=is.idxOf i) rfl];exact this
 .rw[List.length_map];exact Nat.le_trans List.length_erase_le (by rw[List.length_map] at z;exact z)
theorem FE:uh X "list.count" (λx vs H Q=>∃(l:Addr) (xs:List V) (y:V),x = .ref l/\vs=[y]/\H l=some (.lst xs)/\fO y=true/\xs.all fO=true/\Q (.int (xs.countP λz=>kJ z y)) H):=by
 intro pins s σ H x vs v us Q I rx rv h;obtain⟨l,xs,y,rfl,rfl,hH,fy,fs,q⟩:=h;cases rx;obtain⟨u,rfl,ru⟩:=rv.one;obtain⟨z,ai,n,r,hl,e⟩:=I.l9 hH;refine call_meets F.slot_list_count ⟨_,e,rfl⟩ F.entry_list_count (F.args_list_count_2 _ _) (SeqAt.list_countAt l ai.toArray n none #[] u (DH y)) ⟨e,λw hw=>wu ru fy r fs w (by simpa using hw),?_⟩;have cnt:∀{xs:List V} {us:List Value},Vals xs us->xs.all fO=true->us.countP (DH y)=xs.countP λz=>kJ z y:=by
  intro xs us r
  induction r with
  | nil=>intro _;rfl
  | cons h t ih=>intro f;rw[List.all_cons,Bool.and_eq_true] at f;rw[List.countP_cons,List.countP_cons,ih f.2,Ct h f.1]
 refine⟨.int _,H,I.tok _,⟨_,rfl⟩,?_⟩;have e0:List.countP (DH y) ai.toArray.toList=xs.countP λz=>kJ z y:=cnt r fs;rw[e0];exact q
theorem Jv (hu:X.A.units+2<cLine):uh X "dict.get" (λx vs H Q=>∃(a b:Addr) (af:List (List Key×V)) (k:List Key) (y:V),x = .ref a/\vs=[.ref b,y]/\H a=some (.dT af)/\H b=some (.tup (k.map kV))/\Q ((cV af k).getD y) H):=by
 intro pins s σ H x vs v us Q I rx rv h;obtain⟨a,b,af,k,y,rfl,rfl,hH,hb,q⟩:=h;cases rx;obtain⟨u,u2,rfl,r1,r2⟩:=rv.two;cases r1;obtain⟨z,hd,xs,rel,dd⟩:=rn I.aq hH;refine call_meetsIn PySem.F.slot_dict_get dd.typeIs PySem.F.entry_dict_get (PySem.F.args_dict_get_3 _ _ _) (meetsH_dict_get_default (tupleKind (aV X.prog X.w)) a b hd u2) ⟨tupleKind_room_in1 (by omega),k,xs,iZ I.aq hb,dd,?_⟩;have l:=rel.val k;refine⟨(cV af k).getD y,H,I.tok _,?_,q⟩;cases o:cV af k with
 | none=>
  rw[o] at l;cases q:(atKey xs k).map (·.2) with
  | none=>exact r2
  | some v=>rw[q] at l;exact l.elim
 | some v=>
  rw[o] at l;cases q:(atKey xs k).map (·.2) with
  | none=>rw[q] at l;exact l.elim
  | some u=>rw[q] at l;exact l
def Mp (hs:bj->Int)(H:Hp)(a:Addr)(k:bj)(r:V):Prop:=
 ((H a=some (.dK [])\/H a=some (.dT []))/\r = .aj)\/∃xs af,H a=some (PD hs a xs)/\KP H af xs/\r=(cV af k).getD .aj
theorem JJ (hu:X.A.units+2<cLine):uh X "dict.get" (λx vs H Q=>∃(a b:Addr) (k:bj) (r:V),x = .ref a/\vs=[.ref b]/\Mp (dw X.prog X.w) H a k r/\fv H k b/\Q r H):=by
 intro pins s σ H x vs v us Q I rx rv h;obtain⟨a,b,k,r,rfl,rfl,hg,hb,q⟩:=h;cases rx;obtain⟨u,rfl,r1⟩:=rv.one;cases r1;rcases hg with⟨he,rfl⟩|⟨xs,af,he,rel,rfl⟩
 .obtain⟨hd,dd⟩:=rM I he;exact CZ (o:=none) hu I hd dd hb trivial λw' s' I' r'=>⟨.aj,H,I',r',q⟩
 .obtain⟨hd,_,dd⟩:=Ho I.aq he rel;exact CZ hu I hd dd hb (rel.val k) λw' s' I' r'=>⟨_,H,I',r',q⟩
def K0 (hs:bj->Int)(td ty:TE):TE:=λσ H Q=>td σ H λx H1=>∃a,x = .ref a/\(MJ H1 a\/∃xs,H1 a=some (PD hs a xs))/\ty σ H1 λy H2=>∃b k r,y = .ref b/\Mp hs H2 a k r/\fv H2 k b/\Q r H2
theorem ND {pins:List (Addr×Obj)}{σ:St}{H:Hp}{s:Sh}{a:Addr}{hs:bj->Int}{xs:List (bj×Addr×Value)}(I:Inv X pins σ H s)(e:H a=some (PD hs a xs)):
 s.TypeIs (.ref a) "dict"/\(∀b,Value.ref a = .ref b->∃ob,s.heap.get? b=some ob/\ob.dict=none):=by
 obtain⟨⟨h1,h2,h3,o,es,ep,g1,g2,g3,g4⟩,_⟩:=(show aX X.prog X.w H s.heap a (PD hs a xs) from I.aq a _ e);refine⟨⟨o,g1,g2.1⟩,λb hb=>?_⟩;cases hb;exact⟨o,g1,g2.2.1⟩
theorem Fb {o e:Expr}{td ty:TE}{apos dN:Pos}(hu:X.A.units+2<cLine)(ho:PE X o td)(he:PE X e ty)(m:M1 X o "get" apos e dN):PE X (.Call (.Attribute o "get" apos) [e] [] dN) (K0 (dw X.prog X.w) td ty):=by
 intro pins s σ H Q I h;refine wpAny_Call_method m.base m.few m.line PySem.F.plainAttrs_dict PySem.F.slot_dict_get PySem.F.type_dict_get (aQ (ho pins s σ H _ I h) λu s1 ⟨x,H1,I1,rx,a,ex,d,q1⟩=>?_);subst ex;obtain rfl:u=Value.ref a:=rx;have tt:s1.TypeIs (.ref a) "dict"/\(∀b,Value.ref a = .ref b->∃ob,s1.heap.get? b=some ob/\ob.dict=none):=by
  rcases d with d | ⟨xs,d⟩
  .obtain⟨t1,t2,_⟩:=Ds I1 d;exact⟨t1,t2⟩
  .exact ND I1 d
 refine⟨tt.1,tt.2,?_⟩;rw[m.trees];refine Calls.callWith_builtin rfl (Calls.evalArgs_plain (Calls.spliced_cons (aQ (he pins s1 σ H1 _ I1 q1) λiv s2 ⟨y,H2,I2,ry,b,k,r,ey,g,eb,q2⟩=>Calls.spliced_nil ?_)));subst ey;exact JJ hu pins s2 σ H2 (.ref a) [.ref b] _ _ Q I2 rfl (.cons ry .nil) ⟨a,b,k,r,rfl,rfl,g,eb,q2⟩
end
end L2
namespace L2
open PySem PySem.Spec PyProof.Rows
open RF (D O ae Tab)
section
variable {X:Cx}{W:bw}{Γ:RF.Gm}{E:XK}{cl:RF.Calls}{k:Nat}{a b c e:Expr}{ca cb cc:RF.C D}{pos apos:Pos}
def BU:RF.Mt->Str×Nat
 | .append=>("append",1)
 | .pop=>("pop",1)
 | .get=>("get",1)
 | .qS=>("get",2)
 | .extend=>("extend",1)
 | .remove=>("remove",1)
 | .insert=>("insert",2)
 | .count=>("count",1)
theorem kA {m:Str}{n:Nat}{b:RF.Mt}(h:RF.AY m n=some b):m=(BU b).1/\n=(BU b).2:=by
 unfold RF.AY at h
 repeat' split at h
 all_goals first | (cases h;assumption) | cases h
theorem jE {d:D}(h:RF.eA d=true):∃q:bj,d=ofPair q:=by
 unfold RF.eA at h;split at h
 .obtain⟨ks,rfl⟩:=gX h;exact⟨(ks,_),rfl⟩
 .cases h
theorem sx {a b:bj}(e:ofPair a=ofPair b):a=b:=by obtain⟨a1,a2⟩:=a;obtain⟨b1,b2⟩:=b;unfold ofPair at e;simp only[RF.D.tup.injEq,List.cons.injEq,RF.D.int.injEq,and_true] at e;rw[dF e.1,e.2]
theorem pA {M:List Addr}{H:Hp}{q:bj}{v:V}(r:au M H (ofPair q) v):∃b,v = .ref b/\fv H q b:=by
 obtain⟨b,vs,e,hb,hs⟩:=cA r;cases hs with
 | cons h1 t1=>
  cases t1 with
  | cons h2 t2=>cases t2;cases h2;obtain⟨c,ws,e1,hc,hk⟩:=cA h1;subst e1;rw[lJ hk] at hc;exact⟨b,e,c,hb,hc⟩
theorem Gi (hu:X.A.units+2<cLine):uh X "dict.get" (λx vs H Q=>∃(a b:Addr) (H':Hp) (af:List (List Key×V)) (k:List Key) (y:V),x = .ref a/\vs=[.ref b,y]/\(H'=H\/kK H a H')/\H' a=some (.dT af)/\H' b=some (.tup (k.map kV))/\Q ((cV af k).getD y) H'):=by
 intro pins s σ H x vs v us Q I rx rv h;obtain⟨a,b,H',af,k,y,rfl,rfl,hr,h1,h2,q⟩:=h;have I':Inv X pins σ H' s:=by
  rcases hr with rfl | hr
  .exact I
  .exact I.ret hr
 exact Jv hu pins s σ H' _ _ _ _ Q I' rx rv ⟨a,b,af,k,y,rfl,rfl,h1,h2,q⟩
theorem Ew {xs:List D}{is:List Int}(h:RF.iR xs=some is):xs=is.map D.int:=by
 induction xs generalizing is with
 | nil=>cases h;rfl
 | cons x xs ih=>
  cases x with
  | int i=>unfold RF.iR at h;obtain⟨js,h1,rfl⟩:=Option.map_eq_some_iff.mp h;rw[ih h1];rfl
  | _=>simp[RF.iR] at h
theorem Dh {M:List Addr}{H:Hp}{is:List Int}{vs:List V}(r:ay M H (is.map D.int) vs):vs=is.map V.int:=by
 induction is generalizing vs with
 | nil=>cases r;rfl
 | cons i is ih=>
  cases r with
  | cons h t=>cases h;rw[ih t];rfl
theorem uE {M:List Addr}{H:Hp}:∀is:List Int,ay M H (is.map D.int) (is.map V.int)
 | []=>.nil
 | _::is=>.cons (.int _) (uE is)
theorem Ck {M:List Addr}{H:Hp}{x:D}{u:V}(rx:au M H x u)(fx:RF.bI x=true){xs:List D}{vs:List V}(r:ay M H xs vs)(f:xs.all RF.bI=true):(vs.countP λz=>kJ z u)=xs.countP λz=>RF.gG z x:=by
 induction xs generalizing vs with
 | nil=>cases r;rfl
 | cons y ys ih=>
  cases r with
  | cons h hs=>simp only[List.all_cons,Bool.and_eq_true] at f;rw[List.countP_cons,List.countP_cons,ih hs f.2,zR f.1 fx h rx]
theorem xN {κ:Type}[DecidableEq κ]{f:κ->D}(hf:∀a b,f a=f b->a=b){M:List Addr}{H:Hp}{af:List (D×D)}{ks:List (κ×V)}(h:Paired (bZ f M H) af ks)(q:κ):Paired (bZ f M H) (RF.iU af (f q)) (dr ks q):=by
 induction h with
 | nil=>exact .nil
 | @cons p r af ks hr t ih=>
  unfold RF.iU dr at ih ⊢;rw[List.filter_cons,List.filter_cons]
  by_cases e:r.1=q
  .rw[if_neg (by rw[hr.1,e];simp),if_neg (by rw[e];simp)];exact ih
  .have e':¬p.1=f q:=λz=>e (hf _ _ (hr.1.symm.trans z));rw[if_pos (by simp[e']),if_pos (by simp[e])];exact .cons hr ih
theorem G0 {es:List Expr}(h:es.length=2):∃e f,es=[e,f]:=by
 match es,h with
 | [e,f],_=>exact⟨e,f,rfl⟩
theorem oU {f:Expr->RF.C D}{es:List Expr}(h:es.length=1):∃e,es=[e]:=by
 match es,h with
 | [e],_=>exact⟨e,rfl⟩
theorem IX (C:bT X W Γ E cl k){m:Str}{f:Expr->RF.C D}{es:List Expr}(ha:PE X a (tE X.K W E ca))(h:∀e∈es,PE X e (tE X.K W E (f e)))(hp:es.all RF.aL=true)(hb:RF.ji a=true)(hl:(apos.endLine==pos.line)=true)(hn:es.length<30)(hi0:m≠("__init__":Str)):
 PE X (.Call (.Attribute a m apos) es [] pos) (tE X.K W E (RF.az W.T.aJ cl.m (RF.bY W.T.cJ m) (RF.AY m es.length) ca (es.map f))):=by
 have args:=e8 h hp;intro pins s σ H Q I ⟨M,ρ,S,sm,g⟩;unfold RF.az at g;cases e:ca ρ S with
 | bad=>rw[e] at g;exact g.elim
 | ok x S1=>
  rw[e,RF.R.bJ] at g;split at g
  .rename_i n;split at g
   .rename_i cc fs hS;split at g
    .rename_i i hi;obtain⟨hM,g⟩:=aw.guard g;rw[Bool.and_eq_true] at hM;obtain⟨fa,fd,ps,F,hln,hmt,bd,_,m4⟩:=C.top.mt cc i m hM.2 (cG hi);have rd:An (W.c cc) m (nR X.K W (cl.m cc i) ps.length) [] E (tE X.K W E ca) (tA X.K W E (RF.bX (es.map f))) σ H Q:=by
      refine dG sm e λM1 H1 u s1 u1 r1=>?_;obtain⟨p,rfl,ea⟩:=bC r1;obtain⟨dx,gs,h1,hc,h2⟩:=s1.con.at_ n _ p hS ea;refine⟨p,dx,gs,rfl,h1,?_,?_⟩
      .rcases vT (K:=X.K) s1.con.sM h2 (cG hi) with⟨_,z⟩|⟨d,v,z,_⟩
       .exact z
       .rw[z] at hM;cases hM.1
      .refine bH s1 (aw.up g u1) λM2 H2 xs us S2 s2 u2 r2 g2=>?_;rw[List.append_nil];exact lD (xs:=.ref n::xs) s2.con (.cons ((au.ref ea).up u2) r2) hln g2
     cases es with
     | nil=>
      refine FW ha m4 hmt F (C.room.mono (Nat.le_succ k)) (bd.plain hi0) .nil C.pass (tX hb hp hn hl) pins s σ H Q I ?_;refine dG sm e λM1 H1 u s1 u1 r1=>?_;obtain⟨p,rfl,ea⟩:=bC r1;obtain⟨dx,gs,h1,hc,h2⟩:=s1.con.at_ n _ p hS ea;refine⟨p,dx,gs,rfl,h1,?_,lD (xs:=[.ref n]) s1.con (.cons (.ref ea) .nil) hln (aw.up g u1)⟩;rcases vT (K:=X.K) s1.con.sM h2 (cG hi) with⟨_,z⟩|⟨d,v,z,_⟩
      .exact z
      .rw[z] at hM;cases hM.1
     | cons e1 es=>have m6:=hp;simp only[List.all_cons,Bool.and_eq_true] at m6;exact J6 ha m4 hmt F (C.room.mono (Nat.le_succ k)) (bd.plain hi0) .nil C.pass args (aC m6.1) (bM m6.2) (tX hb hp hn hl) pins s σ H Q I rd
    .exact g.elim
   .rename_i o kO hS;split at g
    .rename_i bm uY;obtain⟨iQ,g⟩:=aw.guard g;cases bm with
     | append=>
      obtain⟨rfl,kj⟩:=kA uY;obtain⟨e1,rfl⟩:=oU (f:=f) kj;have km:RF.aL e1=true:=by simpa using hp
      cases o with
      | lst ya=>
       refine pC PySem.F.plainAttrs_list PySem.F.slot_list_append PySem.F.type_list_append Cg ha args (fG hb) (iB hp hn) hl (aC km) (bM rfl) pins s σ H Q I
        (dG sm e λM1 H1 u s1 u1 r1=>?_)
       obtain⟨p,vs,rfl,ea,h1,h2⟩:=gh s1.con hS r1;refine⟨.inl ⟨rfl,vs,cm.of h1⟩,bH s1 (aw.up g u1) λM2 H2 ys us S2 s2 u2 r2 g2=>?_⟩;replace g2:aw X.K W au E M2 H2 (RF.oP n ys S2) Q:=g2;unfold RF.oP at g2;split at g2
       .rename_i xs v gu;obtain⟨hz,g2⟩:=aw.guard g2;obtain⟨w,rfl,rw'⟩:=my r2;have gJ:=dU u2.pre ea;obtain⟨uZ,k1,k2⟩:=s2.con.lst gu gJ;refine⟨p,uZ,w,rfl,rfl,k1,by rw[<-k2.length];exact of_decide_eq_true hz,?_⟩;have nt:c9 (H2 p):=d7 k1 rfl;exact aw.at_ g2 (s2.con.put gu gJ rfl rfl nt ⟨_,aA,(k2.append (.cons rw' .nil)).up (aW nt)⟩) (aW nt) .aj
       .exact g2.elim
      | _=>cases iQ
     | pop=>
      obtain⟨rfl,kj⟩:=kA uY;obtain⟨e1,rfl⟩:=oU (f:=f) kj;have km:RF.aL e1=true:=by simpa using hp
      have st:starEach [e1] X.env=[(false,eval e1 X.env)]:=by rw[aC km];rfl
      cases o with
      | aN Gy=>
       refine Fu C.nS ha (h e1 List.mem_cons_self) ⟨fG hb,iB hp hn,hl,by rw[st];rfl⟩ pins s σ H Q I (dG sm e λM1 H1 u s1 u1 r1=>?_);obtain⟨p,rfl,ea⟩:=bC r1;refine⟨p,rfl,?_,?_⟩
       .rcases s1.con.at_ n _ p hS ea with⟨ks,h1,_⟩|⟨ts,h1,_⟩
        .exact .inl ⟨ks,.inl h1⟩
        .exact .inr ⟨ts,.inl h1⟩
       .have g:=aw.up g u1;have g:aw X.K W au E M1 H1 ((f e1 ρ S1).bind λy S2=>RF.fj .pop (.ref n) [y] S2) Q:=by
         have e3:(RF.bX ([e1].map f) ρ S1).bind (λxs S2=>RF.fj .pop (.ref n) xs S2)=(f e1 ρ S1).bind λy S2=>RF.fj .pop (.ref n) [y] S2:=by show ((f e1 ρ S1).bind λx S1=>(RF.R.ok [] S1).bind λxs S2=>RF.R.ok (x::xs) S2).bind _=_;cases f e1 ρ S1<;>rfl
         rw[e3] at g;exact g
        refine bH s1 g λM2 H2 y w S2 s2 u2 r2 g2=>?_;replace g2:aw X.K W au E M2 H2 (RF.Bx n [y] S2) Q:=g2;unfold RF.Bx at g2;split at g2
        .rename_i af kk gu DX;cases DX;obtain⟨hk,g2⟩:=aw.guard g2;rw[Bool.and_eq_true] at hk;split at g2
         .rename_i d hd;have gJ:=dU u2.pre ea;obtain⟨q,rfl⟩:=gX hk.1;obtain⟨bq,vs,rfl,kq,hs⟩:=cA r2;rw[lJ hs] at kq;rcases s2.con.at_ n _ p gu gJ with⟨ks,h1,h2⟩|⟨ts,h1,h2⟩
          .have:=nh (g6 h2) (kS hk.1);rw[this] at hd;cases hd
          .rcases fW (λ_ _=>dF) h2 q with⟨z1,_⟩|⟨d',v,z1,z2,z3⟩
           .rw[z1] at hd;cases hd
           .rw[z1] at hd;cases hd;have nt:c9 (H2 p):=d7 h1 rfl;exact⟨bq,ts,q,v,rfl,h1,kq,z2,aw.at_ g2 (s2.con.put gu gJ rfl rfl nt (.inr ⟨_,aA,Paired.up (xN (λ_ _=>dF) h2 q) (aW nt)⟩)) (aW nt) (z3.up (aW nt))⟩
         .exact g2.elim
        .exact g2.elim
      | _=>cases iQ
     | extend=>
      obtain⟨rfl,kj⟩:=kA uY;obtain⟨e1,rfl⟩:=oU (f:=f) kj;have km:RF.aL e1=true:=by simpa using hp
      cases o with
      | lst ya=>
       refine pC PySem.F.plainAttrs_list PySem.F.slot_list_extend PySem.F.type_list_extend Cj ha args (fG hb) (iB hp hn) hl (aC km) (bM rfl) pins s σ H Q I
        (dG sm e λM1 H1 u s1 u1 r1=>?_)
       obtain⟨p,vs,rfl,ea,h1,h2⟩:=gh s1.con hS r1;refine⟨.inl ⟨rfl,vs,cm.of h1⟩,bH s1 (aw.up g u1) λM2 H2 ys us S2 s2 u2 r2 g2=>?_⟩;replace g2:aw X.K W au E M2 H2 (RF.oZ n ys S2) Q:=g2;have gJ:=dU u2.pre ea;unfold RF.oZ at g2;split at g2
       .rename_i xs m gu;split at g2
        .rename_i zs hS3;obtain⟨hz,g2⟩:=aw.guard g2;obtain⟨w,rfl,rw'⟩:=my r2;obtain⟨uZ,k1,k2⟩:=s2.con.lst gu gJ;obtain⟨p3,vs3,rfl,ea3,k3,k4⟩:=gh s2.con hS3 rw';refine⟨p,p3,uZ,vs3,rfl,rfl,k1,k3,by rw[<-k2.length,<-k4.length];exact of_decide_eq_true hz,?_⟩;have nt:c9 (H2 p):=d7 k1 rfl;exact aw.at_ g2 (s2.con.put gu gJ rfl rfl nt ⟨_,aA,(k2.append k4).up (aW nt)⟩) (aW nt) .aj
        .exact g2.elim
       .exact g2.elim
      | _=>cases iQ
     | remove=>
      obtain⟨rfl,kj⟩:=kA uY;obtain⟨e1,rfl⟩:=oU (f:=f) kj;have km:RF.aL e1=true:=by simpa using hp
      cases o with
      | lst ya=>
       refine pC PySem.F.plainAttrs_list PySem.F.slot_list_remove PySem.F.type_list_remove DJ ha args (fG hb) (iB hp hn) hl (aC km) (bM rfl) pins s σ H Q I
        (dG sm e λM1 H1 u s1 u1 r1=>?_)
       obtain⟨p,vs,rfl,ea,h1,h2⟩:=gh s1.con hS r1;refine⟨.inl ⟨rfl,vs,cm.of h1⟩,bH s1 (aw.up g u1) λM2 H2 ys us S2 s2 u2 r2 g2=>?_⟩;replace g2:aw X.K W au E M2 H2 (RF.pw n ys S2) Q:=g2;have gJ:=dU u2.pre ea;unfold RF.pw at g2;split at g2
       .rename_i xs i gu;split at g2
        .rename_i is hi;obtain⟨hz,g2⟩:=aw.guard g2;obtain⟨w,rfl,rw'⟩:=my r2;cases rw';obtain⟨uZ,k1,k2⟩:=s2.con.lst gu gJ;rw[Ew hi] at k2;rw[Dh k2] at k1;refine⟨p,is,i,rfl,rfl,k1,of_decide_eq_true hz,?_⟩;have nt:c9 (H2 p):=d7 k1 rfl;exact aw.at_ g2 (s2.con.put gu gJ rfl rfl nt ⟨_,aA,uE _⟩) (aW nt) .aj
        .exact g2.elim
       .exact g2.elim
      | _=>cases iQ
     | count=>
      obtain⟨rfl,kj⟩:=kA uY;obtain⟨e1,rfl⟩:=oU (f:=f) kj;have km:RF.aL e1=true:=by simpa using hp
      cases o with
      | lst ya=>
       refine pC PySem.F.plainAttrs_list PySem.F.slot_list_count PySem.F.type_list_count FE ha args (fG hb) (iB hp hn) hl (aC km) (bM rfl) pins s σ H Q I
        (dG sm e λM1 H1 u s1 u1 r1=>?_)
       obtain⟨p,vs,rfl,ea,h1,h2⟩:=gh s1.con hS r1;refine⟨.inl ⟨rfl,vs,cm.of h1⟩,bH s1 (aw.up g u1) λM2 H2 ys us S2 s2 u2 r2 g2=>?_⟩;replace g2:aw X.K W au E M2 H2 (RF.rH n ys S2) Q:=g2;have gJ:=dU u2.pre ea;unfold RF.rH at g2;split at g2
       .rename_i xs v gu;obtain⟨hz,g2⟩:=aw.guard g2;rw[Bool.and_eq_true] at hz;obtain⟨w,rfl,rw'⟩:=my r2;obtain⟨uZ,k1,k2⟩:=s2.con.lst gu gJ;refine⟨p,uZ,w,rfl,rfl,k1,iO hz.1 rw',Du k2 hz.2,?_⟩;rw[Ck rw' hz.1 k2 hz.2];exact aw.now g2 s2.con (.int _)
       .exact g2.elim
      | _=>cases iQ
     | insert=>
      obtain⟨rfl,kj⟩:=kA uY;obtain⟨e1,e2,rfl⟩:=G0 kj;have m6:=hp;simp only[List.all_cons,List.all_nil,Bool.and_true,Bool.and_eq_true] at m6;have km:=m6.1;have uW:[e2].all RF.aL=true:=by simpa using m6.2
      cases o with
      | lst ya=>
       refine pC PySem.F.plainAttrs_list PySem.F.slot_list_insert PySem.F.type_list_insert CO ha args (fG hb) (iB hp hn) hl (aC km) (bM uW) pins s σ H Q I
        (dG sm e λM1 H1 u s1 u1 r1=>?_)
       obtain⟨p,vs,rfl,ea,h1,h2⟩:=gh s1.con hS r1;refine⟨.inl ⟨rfl,vs,cm.of h1⟩,bH s1 (aw.up g u1) λM2 H2 ys us S2 s2 u2 r2 g2=>?_⟩;replace g2:aw X.K W au E M2 H2 (RF.oV n ys S2) Q:=g2;have gJ:=dU u2.pre ea;unfold RF.oV at g2;split at g2
       .rename_i xs i v gu;obtain⟨hz,g2⟩:=aw.guard g2;rw[Bool.and_eq_true,Bool.and_eq_true] at hz;obtain⟨w,w2,rfl,rw',rw2⟩:=vy r2;cases rw';have h0:0<=i:=of_decide_eq_true hz.1.1;obtain⟨uZ,k1,k2⟩:=s2.con.lst gu gJ;have hi:((i.toNat:Nat):Int)=i:=Int.toNat_of_nonneg h0;refine⟨p,uZ,i.toNat,w2,rfl,by rw[hi],k1,by rw[<-k2.length];exact of_decide_eq_true hz.1.2,by rw[<-k2.length];exact of_decide_eq_true hz.2,?_⟩;have nt:c9 (H2 p):=d7 k1 rfl;exact aw.at_ g2 (s2.con.put gu gJ rfl rfl nt ⟨_,aA,((k2.take _).append (.cons rw2 (k2.drop _))).up (aW nt)⟩) (aW nt) .aj
       .exact g2.elim
      | _=>cases iQ
     | qS=>
      obtain⟨rfl,kj⟩:=kA uY;obtain⟨e1,e2,rfl⟩:=G0 kj;have m6:=hp;simp only[List.all_cons,List.all_nil,Bool.and_true,Bool.and_eq_true] at m6;have km:=m6.1;have uW:[e2].all RF.aL=true:=by simpa using m6.2
      cases o with
      | aN Gy=>
       refine pC PySem.F.plainAttrs_dict PySem.F.slot_dict_get PySem.F.type_dict_get (Gi C.nS) ha args (fG hb) (iB hp hn) hl (aC km) (bM uW) pins s σ H Q I
        (dG sm e λM1 H1 u s1 u1 r1=>?_)
       obtain⟨p,rfl,ea⟩:=bC r1;refine⟨.inr (.inr (.inl ⟨rfl,?_⟩)),bH s1 (aw.up g u1) λM2 H2 ys us S2 s2 u2 r2 g2=>?_⟩
       .rcases s1.con.at_ n _ p hS ea with⟨ks,h1,_⟩|⟨ts,h1,_⟩
        .exact .inl ⟨ks,h1⟩
        .exact .inr ⟨ts,h1⟩
       replace g2:aw X.K W au E M2 H2 (RF.vz n ys S2) Q:=g2;have gJ:=dU u2.pre ea;unfold RF.vz at g2;split at g2
       .rename_i af kk dd gu;obtain⟨hz,g2⟩:=aw.guard g2;rw[Bool.and_eq_true] at hz;obtain⟨w,w2,rfl,rw',rw2⟩:=vy r2;obtain⟨H',hr,c',u',al⟩:=qF s2.con gu gJ hz.2 rw';rcases al with⟨ks,q,_,_,rfl,_⟩|⟨ts,q,b,g1,gp,rfl,rfl,g3⟩
        .have:=hz.1;cases q<;>simp[RF.aY,dB] at this
        .refine⟨p,b,H',ts,q,w2,rfl,rfl,hr,g1,g3,?_⟩;refine aw.at_ g2 c' u' ?_;rcases fW (λ_ _=>dF) gp q with⟨z1,z2⟩|⟨d,v,z1,z2,z3⟩
         .rw[z1,z2];exact rw2.up u'
         .rw[z1,z2];exact z3
       .exact g2.elim
      | _=>cases iQ
     | get=>
      obtain⟨rfl,kj⟩:=kA uY;obtain⟨e1,rfl⟩:=oU (f:=f) kj;have km:RF.aL e1=true:=by simpa using hp
      have st:starEach [e1] X.env=[(false,eval e1 X.env)]:=by rw[aC km];rfl
      refine Fb C.nS ha (h e1 List.mem_cons_self) ⟨fG hb,iB hp hn,hl,by rw[st];rfl⟩ pins s σ H Q I (dG sm e λM1 H1 u s1 u1 r1=>?_);obtain⟨p,rfl,ea⟩:=bC r1;refine⟨p,rfl,?_,?_⟩
      .cases o with
       | aN Gy=>
        rcases s1.con.at_ n _ p hS ea with⟨ks,h1,_⟩|⟨ts,h1,_⟩
        .exact .inl (.inl ⟨ks,.inl h1⟩)
        .exact .inl (.inr ⟨ts,.inl h1⟩)
       | jx Gy=>obtain⟨xs,ps,h1,_⟩:=s1.con.at_ n _ p hS ea;rw[C.top.ph] at h1;exact .inr ⟨xs,h1⟩
       | _=>cases iQ
      .have g:=aw.up g u1;have g:aw X.K W au E M1 H1 ((f e1 ρ S1).bind λy S2=>RF.sW n [y] S2) Q:=by
        have e3:(RF.bX ([e1].map f) ρ S1).bind (λxs S2=>RF.fj .get (.ref n) xs S2)=(f e1 ρ S1).bind λy S2=>RF.sW n [y] S2:=by show ((f e1 ρ S1).bind λx S1=>(RF.R.ok [] S1).bind λxs S2=>RF.R.ok (x::xs) S2).bind _=_;cases f e1 ρ S1<;>rfl
        rw[e3] at g;exact g
       refine bH s1 g λM2 H2 y w S2 s2 u2 r2 g2=>?_;have gJ:=dU u2.pre ea;unfold RF.sW at g2;split at g2
       .rename_i af kk gu DX;cases DX;obtain⟨hz,g3⟩:=aw.guard g2;clear g2;rw[Bool.and_eq_true] at hz;obtain⟨q,rfl⟩:=jE hz.1;obtain⟨b,rfl,kq⟩:=pA r2;have hk:=List.isEmpty_iff.mp hz.2;subst hk;refine⟨b,q,.aj,rfl,.inl ⟨?_,rfl⟩,kq,aw.now g3 s2.con .aj⟩;rcases s2.con.at_ n _ p gu gJ with⟨ks,h1,h2⟩|⟨ts,h1,h2⟩
        .cases h2;exact .inl h1
        .cases h2;exact .inr h1
       .rename_i af kk gu DX;cases DX;obtain⟨hz,g3⟩:=aw.guard g2;clear g2;obtain⟨q,rfl⟩:=jE hz;obtain⟨b,rfl,kq⟩:=pA r2;obtain⟨xs,ps,h1,h2,h3⟩:=s2.con.at_ n _ p gu gJ;rw[C.top.ph] at h1;refine⟨b,q,_,rfl,.inr ⟨xs,ps,h1,h2,rfl⟩,kq,aw.now g3 s2.con ?_⟩;rcases fW (λ_ _=>sx) h3 q with⟨z1,z2⟩|⟨d,v,z1,z2,z3⟩
        .rw[z1,z2];exact .aj
        .rw[z1,z2];exact z3
       .exact g2.elim
    .exact g.elim
   .exact g.elim
  .exact g.elim
end
end L2
namespace L2
open PySem PySem.Spec PyProof.Rows
section
variable {X:Cx}
section
variable {CX:kL}{k:Nat}{f C:Addr}{fd:FuncData}{ps:List Str}{sp:Sp}{E:XK}
end
end
end L2
namespace L2
open PySem PySem.Spec PyProof.Rows
theorem uy (n:Nat):Builtin.Range.rangeSize n (-1) (-1)=n+1:=by unfold Builtin.Range.rangeSize;rw[if_neg (by decide),if_pos (by omega)];have:(-(-1):Int)=1:=rfl;rw[this,Int.ediv_one];omega
theorem kG {i:Int}(h0:-1000000<=i)(h1:i<=1000000):Builtin.Range.rangeFitsLong i=true:=by
 unfold Builtin.Range.rangeFitsLong;have h63:((2:Int) ^ 63)=9223372036854775808:=by decide
 simp only[h63,Bool.and_eq_true,decide_eq_true_eq];omega
def KR (n:Nat):It:=⟨λi _=>i<n+1,λi H x H'=>H'=H/\x = .int ((n:Int)-i),λi _=>n+1<=i⟩
theorem BX {P:Program}{w:World}{K:Fg}{tg:Expr}(it:Addr)(n:Nat):Turn P w K tg (KR n) [it] it (λi h=>IsRangeIter h it ((n:Int)+(i:Nat)*(-1)) (((n+1:Nat):Int)-(i:Nat)) (-1)) where
 mem:=by simp
 obj:=λi h st b hb=>by
  have e:b=it:=by simpa using hb
  subst e;exact⟨_,st,λv z=>by have z':Data.fields _=Data.cell v:=z;cases z'⟩
 keep:=λi h h' st k=>k it (by simp) _ st
 item:=by
  intro X hP hw hK hc i pins s σ H E I hf st hg;subst hP hw hK;obtain⟨f0,f1,f2,f3,f4,f5⟩:=hf it (by simp);have W:=Walks.range (prog:=X.prog) (w:=X.w) (I.ok.hd hc) it n (-1) (n+1);refine W.item i s _ _ hg st λv h' tk hv jw kk=>?_;obtain⟨t,rfl⟩:=hv;have I1:Inv X pins σ H { s with heap:=h',toks:=tk }:=I.turned (λb o hb e=>kk b o (by simpa using hb) e) f0 f1 f3 f4 f5;refine⟨_,rfl,rq (s:={ s with heap:=h',toks:=tk }) (n:="range_iterator") jw rfl rfl (by decide) ⟨.int ((n:Int)-i),H,I1,⟨t,?_⟩,⟨rfl,rfl⟩,jw,λb hb=>(hf b hb).1⟩⟩;have:(n:Int)+(i:Int)*(-1)=(n:Int)-i:=by omega
  rw[this]
 done:=by intro X hP hw hK hc i pins s σ H E I hf st hg;subst hP hw hK;obtain⟨f0,f1,f2,f3,f4,f5⟩:=hf it (by simp);exact wpAny_pyNext_range_end (I.ok.hd hc) st (by have:n+1<=i:=hg;omega) λh' eb=>⟨rfl,I.turned (t':=s.toks) (λb o hb e=>eb b o hb e) f0 f1 f3 f4 f5⟩
 self:=λ_ _ _ _ _ st h=>wpAny_pyIter_rangeiter st h
section
variable {X:Cx}{tg:Expr}
def N6 (ta:TA):TI:=λσ H R=>ta σ H λvs H1=>∃n:Nat,vs=[.int n,.int (-1),.int (-1)]/\n<=1000/\R (KR n) H1
theorem B8 {a b c:Expr}{ta:TA}{p pos:Pos}(hg:Gl X "range")(hm:X.mg "range" = none)(ha:PA X [a,b,c] ta)(hs:starEach [a,b,c] X.env=[(false,eval a X.env),(false,eval b X.env),(false,eval c X.env)]:=by rfl)(sJ:starEach [b,c] X.env=[(false,eval b X.env),(false,eval c X.env)]:=by rfl):
 PI X tg (.Call (.Name "range" p) [a,b,c] [] pos) (N6 ta):=by
 intro pins s σ H R I h;refine Call_ (nQ I hg hm boot_range (PyProof.Rows.callWith_type1 (aQ (ha pos pins s σ H _ I h) λus s1 ⟨vs,H1,I1,r1,q1⟩=>?_) (by rw[hs,sJ]) (by rw[sJ];rfl)));obtain⟨n,e,hn,q⟩:=q1;subst e;cases r1 with
 | cons r rr=>
  cases rr with
  | cons r' rr=>
   cases rr with
   | cons r'' rr=>
    cases rr;obtain⟨t,rfl⟩:=r;obtain⟨t',rfl⟩:=r';obtain⟨t'',rfl⟩:=r'';refine call_range_3 (by decide) ?_ (.inl ?_)
    .refine wpAny_pyIter_range (IsRange.new ..) ?_ ?_
     .unfold Builtin.Range.small;rw[uy,kG (by omega) (by omega),kG (by decide) (by decide),kG (by omega) (by omega),if_neg (by decide),kG (by decide) (by decide)];simp
     .have I2:=I1.kept (t':=s1.toks) (h':=s1.heap.push { cls:=.type "range",data:=.fields #[.int n t,.int (-1) t',.int (-1) t''] }) λb o e=>Heap.get?_push_of_some _ e;refine⟨(s1.heap.push { cls:=.type "range",data:=.fields #[.int n t,.int (-1) t',.int (-1) t''] }).objs.size,[(s1.heap.push { cls:=.type "range",data:=.fields #[.int n t,.int (-1) t',.int (-1) t''] }).objs.size],_,_,H1,rfl,
       I2.kept (t':=s1.toks) λb o e=>Heap.get?_push_of_some _ e,BX _ n,?_,λb hb=>?_,q⟩
      .have e1:(n:Int)+((0:Nat):Int)*(-1)=n:=by simp
       have e2:(((n+1:Nat):Nat):Int)-((0:Nat):Int)=Builtin.Range.rangeSize n (-1) (-1):=by rw[uy];omega
       show IsRangeIter _ _ ((n:Int)+((0:Nat):Int)*(-1)) (((n+1:Nat):Int)-((0:Nat):Int)) (-1);rw[e1,e2];exact Heap.get?_push_size _ rfl
      .have e:b=(s1.heap.push { cls:=.type "range",data:=.fields #[.int n t,.int (-1) t',.int (-1) t''] }).objs.size:=by simpa using hb
       subst e;exact I2.mv (Nat.le_refl _) (I2.aq.fresh (Nat.le_refl _))
    .exact PyProof.noPylong_small (by decide)
end
end L2
namespace L2
open PySem PySem.Spec PyProof.Rows
open RF (D O ae Tab)
structure Wk (K:Fg)(W:bw)(J:It)(items:List D)(chk:ae->Bool)(ok:List Addr->ae->Hp->Prop):Prop where
 go:∀i M S H,Cn K W M S H->ok M S H->i<items.length->J.go i H/\∀x H',J.xW i H x H'->H'=H/\∃d,items[i]?=some d/\au M H d x
 stop:∀i M S H,Cn K W M S H->ok M S H->items.length<=i->J.stop i H
 keep:∀M S H M' S' H',ok M S H->Up M H M' H'->Cn K W M' S' H'->chk S'=true->ok M' S' H'
section
variable {K:Fg}{W:bw}{M:List Addr}{S:ae}{H:Hp}{ρ:RF.Env}{σ:St}{E:XK}
theorem sP {n:Nat}{a:Addr}{items:List D}:Wk K W (y3 K a) items (RF.eZ (.ref n) items) (λM S H=>M[n]?=some a/\RF.itemsOf S (.ref n)=some items) where
 go:=λi M S H c ⟨h1,h2⟩ hi=>by
  obtain⟨vs,hs,hv⟩:=c.items h2 h1;obtain⟨v,g1,g2⟩:=hv.get (List.getElem?_eq_getElem hi);exact⟨⟨vs,v,hs,g1⟩,λx H' y=>⟨y.1,_,List.getElem?_eq_getElem hi,by
   have:=y.2 vs hs;rw[g1] at this;cases this;exact g2⟩⟩
 stop:=λi M S H c ⟨h1,h2⟩ hi=>by obtain⟨vs,hs,hv⟩:=c.items h2 h1;exact⟨vs,hs,by rw[<-hv.length];exact hi⟩
 keep:=λM S H M' S' H' ⟨h1,h2⟩ u c hc=>⟨dU u.pre h1,of_decide_eq_true hc⟩
theorem My {a:Addr}{items:List D}:Wk K W (Lp K a) items (λ_=>true) (λM S H=>au M H (.tup items) (.ref a)) where
 go:=λi M S H c h hi=>by
  obtain⟨p,vs,e,hp,hv⟩:=cA h;cases e;obtain⟨v,g1,g2⟩:=hv.get (List.getElem?_eq_getElem hi);exact⟨⟨vs,v,cy.of hp,g1⟩,λx H' y=>⟨y.1,_,List.getElem?_eq_getElem hi,by
   have:=y.2 vs (cy.of hp);rw[g1] at this;cases this;exact g2⟩⟩
 stop:=λi M S H c h hi=>by obtain⟨p,vs,e,hp,hv⟩:=cA h;cases e;exact⟨vs,cy.of hp,by rw[<-hv.length];exact hi⟩
 keep:=λM S H M' S' H' h u c _=>h.up u
theorem Au {lo:Int}{n i:Nat}(hi:i<n):(RF.d5 lo n)[i]?=some (.int (lo+i)):=by unfold RF.d5;rw[List.getElem?_map,List.getElem?_range hi];rfl
theorem rE {lo:Int}{n:Nat}:(RF.d5 lo n).length=n:=by unfold RF.d5;simp
theorem wo {lo:Int}{n:Nat}:Wk K W (GQ lo n) (RF.d5 lo n) (λ_=>true) (λ_ _ _=>True) where
 go:=λi M S H c _ hi=>by rw[rE] at hi;exact⟨hi,λx H' y=>⟨y.1,_,Au hi,by rw[y.2];exact .int _⟩⟩
 stop:=λi M S H c _ hi=>by rw[rE] at hi;exact hi
 keep:=λ_ _ _ _ _ _ _ _ _ _=>trivial
theorem B4 {n i:Nat}(h:i<n+1):(RF.gK n)[i]?=some (.int ((n:Int)-(i:Int))):=by unfold RF.gK;rw[List.getElem?_map,List.getElem?_range h];rfl
theorem tS {n:Nat}:(RF.gK n).length=n+1:=by unfold RF.gK;simp
theorem IY {n:Nat}:Wk K W (KR n) (RF.gK n) (λ_=>true) (λ_ _ _=>True) where
 go:=λi M S H c _ hi=>by rw[tS] at hi;exact⟨hi,λx H' y=>⟨y.1,_,B4 hi,by rw[y.2];exact .int _⟩⟩
 stop:=λi M S H c _ hi=>by rw[tS] at hi;exact hi
 keep:=λ_ _ _ _ _ _ _ _ _ _=>trivial
theorem uD {e:Expr}(h:RF.rm e=true):∃j p q,e = .UnaryOp .USub (.Constant (.int 1) j p) q:=by
 unfold RF.rm at h;split at h
 .exact⟨_,_,_,rfl⟩
 .cases h
theorem MT {z:Str}:Wk K W (Cp z) (z.cps.toList.map λc=>.str ⟨#[c]⟩) (λ_=>true) (λ_ _ _=>True) where
 go:=λi M S H c _ hi=>by
  have hi:i<z.cps.size:=by simpa using hi
  refine⟨hi,λx H' y=>⟨y.1,?_⟩⟩;obtain⟨_,cc,e1,rfl⟩:=y;refine⟨.str ⟨#[cc]⟩,?_,.str _⟩;rw[List.getElem?_map,Array.getElem?_toList,e1];rfl
 stop:=λi M S H c _ hi=>by show z.cps.size<=i;simpa using hi
 keep:=λ_ _ _ _ _ _ _ _ _ _=>trivial
theorem yN {a:Addr}{od:Obj}{af:List (D×D)}{ts:List (List Key×V)}(hk:af.length=ts.length)(hx:∀(i:Nat) q,ts[i]?=some q->(af.map (·.1))[i]?=some (ofKeys q.1)):
 Wk K W (Kb a od ts) (af.map (·.1)) (λ_=>true) (λM S H=>H a=some (.bR od (.dT ts))) where
 go:=λi M S H c h hi=>by
  have hi:i<ts.length:=by rw[<-hk];simpa using hi
  refine⟨⟨h,hi⟩,λx H' y=>⟨y.1,?_⟩⟩;obtain⟨_,b,p,e1,rfl,e2⟩:=y;exact⟨ofKeys p.1,hx i p e1,.tup e2 (CQ M H p.1)⟩
 stop:=λi M S H c h hi=>⟨h,by rw[<-hk];simpa using hi⟩
 keep:=λM S H M' S' H' h u c _=>u.c6 _ _ _ h
theorem Sm.set {K:Fg}{M:List Addr}{S:ae}{H:Hp}{ρ:RF.Env}{σ:St}(s:Sm K W M S H ρ σ){i:Nat}{d:D}{v:V}(r:au M H d v):Sm K W M S H (ρ.set i (some d)) (σ.set i (some v)):=
 ⟨s.con,s.env.set r (Nat.le_of_eq s.len),by simp[s.len]⟩
def ic:List Nat->uG
 | []=>MK
 | i::is=>GL (oF i) (ic is)
theorem se {K:Fg}{M:List Addr}{S:ae}{H:Hp}{Q:St->Hp->Prop}:∀{is:List Nat} {ds:List D} {vs:List V} {ρ ρ':RF.Env} {σ:St},RF.k9 is ds ρ=some ρ'->ay M H ds vs->Sm K W M S H ρ σ->(∀σ',Sm K W M S H ρ' σ'->Q σ' H)->ic is vs σ H Q
 | [],[],_,_,_,_,h,r,s,q=>by cases h;cases r;exact⟨rfl,q _ s⟩
 | i::is,d::ds,_,_,_,_,h,r,s,q=>by
  cases r with
  | cons r1 r2=>exact⟨_,_,rfl,se h r2 (s.set r1) q⟩
 | [],_::_,_,_,_,_,h,_,_,_=>by cases h
 | _::_,[],_,_,_,_,h,_,_,_=>by cases h
theorem mh:∀{is:List Nat} {ds:List D} {ρ ρ':RF.Env},RF.k9 is ds ρ=some ρ'->ds.length=is.length
 | [],[],_,_,_=>rfl
 | i::is,d::ds,ρ,ρ',h=>by have:=mh (is:=is) (ds:=ds) (ρ:=ρ.set i (some d)) (ρ':=ρ') h;simp[this]
 | [],_::_,_,_,h=>by cases h
 | _::_,[],_,_,h=>by cases h
theorem Gn {κ:Type}[DecidableEq κ]{f:κ->D}(hf:∀a b,f a=f b->a=b){M:List Addr}{H:Hp}{af:List (D×D)}{ks:List (κ×V)}(h:Paired (bZ f M H) af ks){q:κ}{d:D}{v:V}(r:au M H d v):
 Paired (bZ f M H) (af.map λkv=>if kv.1=f q then (kv.1,d) else kv) (ks.map λkv=>if kv.1=q then (kv.1,v) else kv)/\(af.any λkv=>decide (kv.1=f q))=ks.any λkv=>decide (kv.1=q):=by
 induction h with
 | nil=>exact⟨.nil,rfl⟩
 | @cons p s af ks hr t ih=>
  rw[List.map_cons,List.map_cons,List.any_cons,List.any_cons,ih.2]
  by_cases e:s.1=q
  .have e':p.1=f q:=by rw[hr.1,e]
   rw[if_pos e',if_pos e];exact⟨.cons ⟨hr.1,r⟩ ih.1,by simp[e,e']⟩
  .have e':¬p.1=f q:=λz=>e (hf _ _ (hr.1.symm.trans z));rw[if_neg e',if_neg e];exact⟨.cons hr ih.1,by simp[e,e']⟩
theorem rY {α β:Type}{F:α->β->Prop}:∀{l₁ l₂:List α} {m₁ m₂:List β},Paired F l₁ m₁->Paired F l₂ m₂->Paired F (l₁++l₂) (m₁++m₂)
 | _,_,_,_,.nil,s=>s
 | _,_,_,_,.cons r t,s=>.cons r (rY t s)
theorem qq {κ:Type}[DecidableEq κ]{f:κ->D}(hf:∀a b,f a=f b->a=b){M:List Addr}{H:Hp}{af:List (D×D)}{ks:List (κ×V)}(h:Paired (bZ f M H) af ks){q:κ}{d:D}{v:V}(r:au M H d v):Paired (bZ f M H) (RF.putD af (f q) d) (putK ks q v):=by
 obtain⟨h1,h2⟩:=Gn hf h (q:=q) r;unfold RF.putD putK;rw[h2];split
 .exact h1
 .exact rY h (.cons ⟨rfl,r⟩ .nil)
end
section
variable {X:Cx}{W:bw}{Γ:RF.Gm}
theorem c0 {e:Expr}{r:List Expr}{is:List Nat}(h:RF.slots Γ (e::r)=some is):∃x p i js,e = .Name x p/\RF.slot Γ x=some i/\RF.slots Γ r=some js/\i∉js/\is=i::js:=by
 unfold RF.slots at h;split at h
 .rename_i e';cases e'
 .rename_i x p r' e';cases e';split at h
  .rename_i i js h1 h2;split at h
   .cases h
   .rename_i hc;cases h;exact⟨x,p,i,js,rfl,h1,h2,λz=>hc (by simpa using z),rfl⟩
  .cases h
 .cases h
theorem gj {env:Env}:∀{ts:List Expr} {is:List Nat},RF.slots Γ ts=some is->(assignEach ts env).length=ts.length/\(assignEach ts env).findIdx? (·.1)=none/\is.length=ts.length
 | [],is,h=>by cases h;exact⟨rfl,rfl,rfl⟩
 | e::r,is,h=>by
  obtain⟨x,p,i,js,rfl,h1,h2,_,rfl⟩:=c0 h;obtain⟨a1,a2,a3⟩:=gj (env:=env) h2;refine⟨?_,?_,by simp[a3]⟩
  .show (assignEach r env).length+1=_;rw[a1];rfl
  .show List.findIdx? (·.1) ((false,assign (.Name x p) env)::assignEach r env)=none;rw[List.findIdx?_cons];simp[a2]
def mC (X:Cx)(W:bw)(is:List Nat)(one:Bool)(g:TG):Prop:=∀(M:List Addr) (S:ae) (H:Hp) (ρ ρ1:RF.Env) (σ:St) (d:D) (x:V) (Q:St->Hp->Prop),Sm X.K W M S H ρ σ->au M H d x->RF.pZ is one d ρ=some ρ1->(∀σ',Sm X.K W M S H ρ1 σ'->Q σ' H)->g x σ H Q
theorem zk {i:Nat}:mC X W [i] true (oF i):=λM S H ρ ρ1 σ d x Q s r h q=>by cases h;exact q _ (s.set r)
theorem CW {is:List Nat}{n:Nat}(hn:is.length=n):mC X W is false (FO X.K n (ic is)):=λM S H ρ ρ1 σ d x Q s r h q=>by
 unfold RF.pZ at h;simp only[Bool.false_eq_true,if_false] at h;split at h
 .obtain⟨p,vs,rfl,hp,hv⟩:=cA r;exact⟨p,vs,rfl,cy.of hp,by rw[<-hv.length,mh h,hn],se h hv s q⟩
 .cases h
end
def Cq {α β:Type}(ra:List Addr->Hp->α->β->Prop):Prop:=∀M H M' H' a b,ra M H a b->Up M H M' H'->ra M' H' a b
section
variable {K:Fg}{W:bw}{M M1:List Addr}{S:ae}{H H1:Hp}{ρ:RF.Env}{σ:St}{E:XK}{α β:Type}{ra:List Addr->Hp->α->β->Prop}
def jh (K:Fg)(W:bw)(ra:List Addr->Hp->α->β->Prop)(M:List Addr)(H:Hp)(ρ:RF.Env)(r:RF.R α)(Q:β->St->Hp->Prop):Prop:=match r with
 | .ok a S'=>∀M' H' σ' b,Sm K W M' S' H' ρ σ'->Up M H M' H'->ra M' H' a b->Q b σ' H'
 | _=>False
theorem jh.up {r:RF.R α}{Q:β->St->Hp->Prop}(h:jh K W ra M H ρ r Q)(u:Up M H M1 H1):jh K W ra M1 H1 ρ r Q:=by
 cases r with
 | ok a S'=>exact λM' H' σ' b s u'=>h M' H' σ' b s (u.trans u')
 | _=>exact h
def xK (K:Fg)(W:bw)(ra:List Addr->Hp->α->β->Prop)(b:α->RF.C α):TB β:=λa' σ H Q=>∃M ρ S a,Sm K W M S H ρ σ/\ra M H a a'/\jh K W ra M H ρ (b a ρ S) Q
theorem jh.qy {r:RF.R α}{Q:β->Hp->Prop}(h:aw K W ra E M H (r) Q):jh K W ra M H ρ r λb _ H'=>Q b H':=by
 cases r with
 | ok a S'=>exact λM' H' σ' b s u r=>h M' H' b s.con u r
 | bad=>exact h.elim
theorem jh.guard {b:Bool}{r:RF.R α}{Q:β->St->Hp->Prop}(h:jh K W ra M H ρ (RF.aE b r) Q):b=true/\jh K W ra M H ρ r Q:=by
 unfold RF.aE at h;cases b with
 | true=>exact⟨rfl,h⟩
 | false=>exact h.elim
theorem tV:∀{is:List Nat} {ds:List D} {ρ ρ1:RF.Env},RF.k9 is ds ρ=some ρ1->ρ1.length=ρ.length/\∀j,j∉is->ρ1[j]?=ρ[j]?
 | [],[],ρ,ρ1,h=>by cases h;exact⟨rfl,λ_ _=>rfl⟩
 | i::is,d::ds,ρ,ρ1,h=>by obtain⟨h1,h2⟩:=tV (is:=is) (ds:=ds) (ρ:=ρ.set i (some d)) (ρ1:=ρ1) h;refine⟨by rw[h1,List.length_set],λj hj=>?_⟩;rw[h2 j λz=>hj (List.mem_cons_of_mem _ z),List.getElem?_set_ne (λz=>hj (by rw[<-z];exact List.mem_cons_self))]
 | [],_::_,_,_,h=>by cases h
 | _::_,[],_,_,h=>by cases h
theorem Gp {is:List Nat}{one:Bool}{d:D}{ρ ρ1:RF.Env}(h:RF.pZ is one d ρ=some ρ1):ρ1.length=ρ.length/\∀j,j∉is->ρ1[j]?=ρ[j]?:=by
 unfold RF.pZ at h;split at h
 .split at h
  .cases h;rename_i i;exact⟨List.length_set,λj hj=>List.getElem?_set_ne (λz=>hj (by rw[<-z];exact List.mem_cons_self))⟩
  .cases h
 .split at h
  .exact tV h
  .cases h
theorem Sm.back {is:List Nat}{one:Bool}{d:D}{ρ1:RF.Env}(s:Sm K W M S H ρ1 σ)(h:RF.pZ is one d ρ=some ρ1)(hb:RF.blank is ρ=true):Sm K W M S H ρ σ:=by
 obtain⟨h1,h2⟩:=Gp h;refine⟨s.con,λj x e=>s.env j x ?_,h1.symm.trans s.len⟩;rw[h2 j λhj=>?_]
 .exact e
 .have:=List.all_eq_true.mp hb j hj;rw[e] at this;cases this
theorem qC {chk:ae->Bool}{is:List Nat}{one:Bool}{t:RF.C Bool}{b:α->RF.C α}{l:List D}{a:α}{Q:β->St->Hp->Prop}(g:jh K W ra M H ρ (RF.bB chk is one t b ρ l a S) Q):chk S=true:=by
 cases h:chk S with
 | true=>rfl
 | false=>
  exfalso;cases l with
  | nil=>unfold RF.bB at g;rw[h] at g;exact g
  | cons x xs=>unfold RF.bB at g;rw[h] at g;exact g
theorem nT {X:Cx}{J:It}{items:List D}{chk:ae->Bool}{ok:List Addr->ae->Hp->Prop}(wk:Wk X.K W J items chk ok){is:List Nat}{one:Bool}{gt:TG}(hg:mC X W is one gt){t:RF.C Bool}{b:α->RF.C α}(qg:Cq ra)(qh:RF.blank is ρ=true)
 {a:α} {a':β} {R:β->St->Hp->Prop} (sm:Sm X.K W M S H ρ σ) (aq:ok M S H) (r0:ra M H a a') (g:jh X.K W ra M H ρ (RF.bB chk is one t b ρ items a S) R):zD J gt (tT X.K W E0 t) (xK X.K W ra b) R a' σ H:=by
 refine⟨λi m a' σ H=>m=items.length-i/\i<=items.length/\∃M S a,Sm X.K W M S H ρ σ/\ok M S H/\ra M H a a'/\jh X.K W ra M H ρ (RF.bB chk is one t b ρ (items.drop i) a S) R,⟨items.length,by simp,Nat.zero_le _,M,S,a,sm,aq,r0,by rw[List.drop_zero];exact g⟩,?_⟩;rintro i m a' σ H ⟨rfl,hi,M,S,a,sm,aq,r0,g⟩;have hc:=qC g;rcases Nat.lt_or_ge i items.length with eR | m7
 .obtain⟨go,yl⟩:=wk.go i M S H sm.con aq eR;refine .inr ⟨go,_,λa' σ' H' z=>⟨items.length-(i+1),by omega,z⟩,λx H' y=>?_⟩;obtain⟨rfl,d,hd,rd⟩:=yl x H' y;have ed:items.drop i=d::items.drop (i+1):=by
   rw[List.drop_eq_getElem_cons eR]
   congr 1
   rw[List.getElem?_eq_getElem eR] at hd;exact Option.some.inj hd
  rw[ed] at g;unfold RF.bB at g;rw[if_pos hc] at g;split at g
  .rename_i ρ1 ht;refine⟨Ts.refl _,hg M S H' ρ ρ1 σ d x _ sm rd ht λσ1 s1=>⟨Ts.refl _,?_⟩⟩;cases ev:t ρ1 S with
   | bad=>rw[ev] at g;exact g.elim
   | ok c S1=>
    rw[ev,RF.R.bJ] at g;refine dG s1 ev λM1 H1 u s2 u1 r1=>?_;subst r1;refine⟨u1.dM,?_⟩;cases c with
    | false=>rw[if_neg (by decide)] at g ⊢;have g1:=g.up u1;exact⟨rfl,eR,M1,S1,a,s2.back ht qh,wk.keep M S H' M1 S1 H1 aq u1 s2.con (qC g1),qg _ _ _ _ _ _ r0 u1,g1⟩
    | true=>
     rw[if_pos rfl] at g ⊢;refine⟨M1,ρ1,S1,a,s2,qg _ _ _ _ _ _ r0 u1,?_⟩;cases ev2:b a ρ1 S1 with
     | bad=>rw[ev2] at g;exact g.elim
     | ok a1 S2=>rw[ev2,RF.R.bJ] at g;intro M2 H2 σ2 b2 s3 u2 r2;have g2:=g.up (u1.trans u2);exact⟨rfl,eR,M2,S2,a1,s3.back ht qh,wk.keep M S H' M2 S2 H2 aq (u1.trans u2) s3.con (qC g2),r2,g2⟩
  .exact g.elim
 .have ei:i=items.length:=by omega
  subst ei;refine .inl ⟨wk.stop _ M S H sm.con aq (Nat.le_refl _),?_⟩;rw[List.drop_length] at g;unfold RF.bB at g;rw[if_pos hc] at g;exact g M H σ a' sm (Up.refl _ _) r0
theorem PB.imp {X:Cx}{D:Addr}{ob:β->HO}{m:Sem Unit}{t t':TB β}(h:PB X D ob m t)(k:∀a σ H Q,t' a σ H Q->t a σ H Q):PB X D ob m t':=λpins s σ H a Q I A q=>h pins s σ H a Q I A (k _ _ _ _ q)
theorem JT {c:RF.C D}:∀a σ H Q,xK K W ay (RF.bL c) a σ H Q->GH (tE K W E0 c) a σ H Q:=by
 rintro a' σ H Q ⟨M,ρ,S,a,sm,ra,g⟩;obtain⟨hz,g⟩:=jh.guard g;cases ev:c ρ S with
 | bad=>rw[ev] at g;exact g.elim
 | ok y S1=>rw[ev,RF.R.bJ] at g;refine dG sm ev λM1 H1 u s1 u1 r1=>⟨by rw[<-ra.length];exact of_decide_eq_true hz,u1.dM,?_⟩;exact g M1 H1 σ _ s1 u1 ((ra.up u1).append (.cons r1 .nil))
end
end L2
namespace L2
open PySem PySem.Spec PyProof.Rows
open RF (D O ae Tab)
structure dz (kt:RF.d0)(T:Tab)(cl:RF.Calls)(k:Nat):Prop where
 e:∀{X:Cx} {W:bw} {Γ:RF.Gm} {E:XK},W.T=T->bT X W Γ E cl k->∀e,PE X e (tE X.K W E (kt.e Γ e))
 t:∀{X:Cx} {W:bw} {Γ:RF.Gm} {E:XK},W.T=T->bT X W Γ E cl k->∀e,PT X e (tT X.K W E (kt.t Γ e))
 w:∀{X:Cx} {W:bw} {Γ:RF.Gm} {E:XK},W.T=T->bT X W Γ E cl k->∀op vs p,PW X (.BoolOp op vs p) (tT X.K W E (kt.t Γ (.BoolOp op vs p)))
 c1:∀{X:Cx} {W:bw} {Γ:RF.Gm} {E:XK},W.T=T->bT X W Γ E cl k->∀a op b p,PT X (.Compare a [op] [b] p) (tT X.K W E (RF.av (kt.e Γ (.Compare a [op] [b] p))))
 c2:∀{X:Cx} {W:bw} {Γ:RF.Gm} {E:XK},W.T=T->bT X W Γ E cl k->∀a o1 o2 b c p,PT X (.Compare a [o1,o2] [b,c] p) (tT X.K W E (RF.av (kt.e Γ (.Compare a [o1,o2] [b,c] p))))
theorem yC (sc:Scope)(env:Env):oq sc (relabel sc env):=by
 intro x;show (sc.names.map λ(n,k)=>if (k == .free&&env.scope.kind == .function&&env.kindOf n==some .cell) then (n,.cell) else (n,k)).lookup x=sc.names.lookup x\/_/\(sc.names.map λ(n,k)=>if (k == .free&&env.scope.kind == .function&&env.kindOf n==some .cell) then (n,.cell) else (n,k)).lookup x=some .cell;generalize sc.names=l
 induction l with
 | nil=>exact .inl rfl
 | cons p r ih=>
  obtain⟨n,kk⟩:=p;simp only[List.map_cons]
  by_cases hd:(kk==NameKind.free&&env.scope.kind == .function&&env.kindOf n==some .cell)=true
  .rw[if_pos hd];simp only[List.lookup_cons];cases hx:x==n with
   | true=>simp only[Bool.and_eq_true] at hd;exact .inr ⟨by rw[eq_of_beq hd.1.1],rfl⟩
   | false=>exact ih
  .rw[if_neg hd];simp only[List.lookup_cons];cases hx:x==n with
   | true=>exact .inl rfl
   | false=>exact ih
theorem iX {sc o o':Scope}{xs M:List Str}(h:RF.jl sc o xs M=true)(k:oq o o'):oR sc o' xs M=true:=by
 unfold RF.jl at h;unfold oR;simp only[Bool.and_eq_true] at h ⊢;refine⟨⟨h.1.1,?_⟩,h.2⟩;have h5:=h.1.2;rw[List.all_eq_true] at h5 ⊢;intro p hp;have:=h5 p hp;rw[Bool.or_eq_true] at this ⊢;rcases this with z | z
 .exact .inl z
 .refine .inr ?_;rcases k p.1 with e | ⟨e1,e2⟩
  .rw[e];exact z
  .rw[e2];rfl
theorem ml {l:List Str}(h:RF.j4 l=true):l.Nodup:=by
 induction l with
 | nil=>exact List.nodup_nil
 | cons x xs ih=>unfold RF.j4 at h;rw[Bool.and_eq_true] at h;refine List.nodup_cons.mpr ⟨λhm=>?_,ih h.2⟩;have:(xs.any λy=>decide (y=x))=true:=List.any_eq_true.mpr ⟨x,hm,decide_eq_true rfl⟩;rw[this] at h;cases h.1
theorem Gb {sc:Scope}{xs N:List Str}(h:RF.eo sc xs N=true):∀(j:Nat) (y:Str),(RF.b8 xs N)[j]?=some y->(∃p∈sc.names,p.1=y)->N[j]?=some y:=by
 intro j y hj ⟨p,hp,e⟩;unfold RF.eo at h;rw[Bool.and_eq_true] at h;unfold RF.b8 at hj;rw[List.getElem?_map] at hj;obtain⟨z,h1,h2⟩:=Option.map_eq_some_iff.mp hj;split at h2
 .rename_i hc;exfalso;have hz:z∈xs:=by simpa using hc
  have:(sc.names.any λp=>xs.any λx=>decide (p.1=x++("?":Str)))=true:=List.any_eq_true.mpr ⟨p,hp,List.any_eq_true.mpr ⟨z,hz,decide_eq_true (e.trans h2.symm)⟩⟩;rw[this] at h;cases h.2
 .rw[h1,h2]
section
variable {X:Cx}{W:bw}{Γ:RF.Gm}{E:XK}{cl:RF.Calls}{k:Nat}{kt:RF.d0}{a b c e:Expr}{ca cb cc:RF.C D}{pos:Pos}
theorem bT.GR (C:bT X W Γ E cl k){sc:Scope}{xs:List Str}(hs:RF.eo sc xs Γ.N=true)(Ca:Addr)(s:Sh)(H:Hp)(fp:List Addr):bT (cN X sc xs (RF.b8 xs Γ.N) Ca s H fp) W ⟨xs++RF.b8 xs Γ.N,sc,false⟩ E0 cl k where
 N:=rfl
 nd:=by unfold RF.eo at hs;rw[Bool.and_eq_true] at hs;exact ml hs.1
 jm:=yC sc X.env
 calm:=C.calm
 room:=C.room
 pass:=Be
 top:=C.top
theorem Cn.bR {K:Fg}{M:List Addr}{S:ae}{H:Hp}(c:Cn K W M S H){n:Nat}{a:Addr}{af:List (D×D)}{ts:List (List Key×V)}{od:Obj}(hS:S[n]?=some (.aN af))(hM:M[n]?=some a)(h1:H a=some (.dT ts))(h2:Paired (bZ ofKeys M H) af ts):
 Cn K W M (S.set n (.c7 af)) (upd H a (.bR od (.dT ts))):=by
 have nt:c9 (H a):=d7 h1 rfl;exact c.put hS hM rfl rfl nt ⟨od,ts,aA,Paired.up h2 (aW nt)⟩
theorem Cn.vH {K:Fg}{M:List Addr}{S:ae}{H:Hp}(c:Cn K W M S H){n:Nat}{a:Addr}{af:List (D×D)}{ts:List (List Key×V)}{od:Obj}(hS:S[n]?=some (.c7 af))(hM:M[n]?=some a)(h1:H a=some (.bR od (.dT ts))):
 Cn K W M (S.set n (.aN af)) (upd H a (.dT ts)):=by
 have nt:vB (H a):=λxs z=>by rw[h1] at z;cases z
 obtain⟨o,ts',g1,g2⟩:=c.at_ n _ a hS hM;rw[h1] at g1;cases g1;exact c.Me hS hM rfl rfl nt (λob vs z=>by rw[h1] at z;cases z) (.inr ⟨ts,aA,Paired.dW g2 (jM nt)⟩)
theorem ze {M M1:List Addr}{H H1:Hp}{a:Addr}{od:Obj}{ts:List (List Key×V)}{o:HO}(h0:H a=some (.dT ts))(u:Up M (upd H a (.bR od (.dT ts))) M1 H1):Up M H M1 (upd H1 a (.dT ts)):=by
 refine⟨⟨u.pre,λb xs h=>?_⟩,λb ob w h=>?_⟩
 .have nb:b≠a:=λz=>by subst z;rw[h0] at h;cases h
  rw[ax nb];exact u.dM b xs (by rw[ax nb];exact h)
 .have nb:b≠a:=λz=>by subst z;rw[h0] at h;cases h
  rw[ax nb];exact u.c6 b ob w (by rw[ax nb];exact h)
theorem qw {tg l:Expr}{tl:TE}(hl:PE X l tl):PI X tg l (λσ H R=>tl σ H λx H1=>∃a,x = .ref a/\(∃xs,cm X.K H1 a xs)/\((∀xs,cm X.K H1 a xs->xs.length<=sizeLine)->R (y3 X.K a) H1)):=by
 intro pins s σ H R I h;refine aQ (hl pins s σ H _ I h) λv s1 ⟨x,H1,I1,r1,q1⟩=>?_;obtain⟨a,e,⟨xs,hq⟩,q⟩:=q1;subst e;cases r1;obtain⟨ai,rv,p,hz⟩:=I1.list hq;refine wpAny_pyIter_list p.isList ?_;refine⟨s1.heap.objs.size,[s1.heap.objs.size],_,_,H1,rfl,I1.kept (t':=s1.toks) λb o e=>Heap.get?_push_of_some _ e,DC a _,⟨_,Heap.get?_push_size _ rfl,rfl,rfl⟩,λb hb=>?_,q λys hy=>by rw[I1.qP hy hq];exact hz⟩;have e:b=s1.heap.objs.size:=by simpa using hb
 subst e;exact I1.mv (Nat.le_refl _) (I1.aq.fresh (Nat.le_refl _))
theorem II {tg l:Expr}{tl:TE}(hl:PE X l tl):PI X tg l (λσ H R=>tl σ H λx H1=>∃a,x = .ref a/\(∃xs,cy X.K H1 a xs)/\((∀xs,cy X.K H1 a xs->xs.length<=sizeLine)->R (Lp X.K a) H1)):=by
 intro pins s σ H R I h;refine aQ (hl pins s σ H _ I h) λv s1 ⟨x,H1,I1,r1,q1⟩=>?_;obtain⟨a,e,⟨xs,hq⟩,q⟩:=q1;subst e;cases r1;obtain⟨ai,rv,p,hz⟩:=I1.tuple hq;refine wpAny_pyIter_tuple (show s1.heap.IsTuple a ai.toArray from p) ?_;refine⟨s1.heap.objs.size,[s1.heap.objs.size],_,_,H1,rfl,I1.kept (t':=s1.toks) λb o e=>Heap.get?_push_of_some _ e,Aw a _,⟨_,Heap.get?_push_size _ rfl,rfl,rfl⟩,λb hb=>?_,q λys hy=>by rw[I1.uk hy hq];exact hz⟩;have e:b=s1.heap.objs.size:=by simpa using hb
 subst e;exact I1.mv (Nat.le_refl _) (I1.aq.fresh (Nat.le_refl _))
theorem xA {tg l:Expr}{tl:TE}(hl:PE X l tl):PI X tg l (λσ H R=>tl σ H λx H1=>∃d af H2,x = .ref d/\(H2=H1\/kK H1 d H2)/\H2 d=some (.dT af)/\∀od,af.length<=sizeLine->R (Kb d od af) (upd H2 d (.bR od (.dT af)))):=by
 intro pins s σ H R I h;refine aQ (hl pins s σ H _ I h) λv s1 ⟨x,H0,I0,r1,q1⟩=>?_;obtain⟨d,af,H1,rfl,hr,e,q⟩:=q1;cases r1;have I1:Inv X pins σ H1 s1:=by
  rcases hr with rfl | hr
  .exact I0
  .exact I0.ret hr
 obtain⟨od,es,ep,h1,h2,h3,h4,h5,h6,h7⟩:=lQ I1 (.inl e);refine uN h4 h1 h2 h3 ?_;have I2:Inv X pins σ H1 { s1 with heap:=s1.heap.push { cls:=.type "dict_keyiterator",data:=.fields #[.ref d,.int 0 0,.int es.size 0,.int ep 0] } }:=I1.kept (t':=s1.toks) λb o e=>Heap.get?_push_of_some _ e;have nd:s1.heap.objs.size≠d:=λz=>absurd (Heap.lt_size h1) (by rw[<-z];exact Nat.lt_irrefl _);refine⟨s1.heap.objs.size,[s1.heap.objs.size],_,_,_,rfl,I2.freeze e (Heap.get?_push_of_some _ h1),Cy _ h3,⟨_,Heap.get?_push_size _ rfl,rfl,rfl⟩,λb hb=>?_,q od h6⟩;have z:b=s1.heap.objs.size:=by simpa using hb
 subst z;exact I1.mv (Nat.le_refl _) (by rw[ax nd];exact I1.aq.fresh (Nat.le_refl _))
theorem keysAt {M:List Addr}{H:Hp}{af:List (D×D)}{ts:List (List Key×V)}(h:Paired (bZ ofKeys M H) af ts):∀(i:Nat) q,ts[i]?=some q->(af.map (·.1))[i]?=some (ofKeys q.1):=by
 induction h with
 | nil=>intro i q e;simp at e
 | @cons p r af ts hr t ih=>
  intro i q e;cases i with
  | zero=>
   have e:r=q:=by simpa using e
   subst e;simp[hr.1]
  | succ i=>simpa using ih i q (by simpa using e)
theorem mO {env:Env}:∀{names:List (Str×NameKind)} {x:Str},names.lookup x=some .local->(names.map λ(n,k)=>if (k == .free&&env.scope.kind == .function&&env.kindOf n==some .cell) then (n,.cell) else (n,k)).lookup x=some .local
 | [],x,h=>h
 | (n,kk)::r,x,h=>by
  simp only[List.map_cons];rw[List.lookup_cons] at h;cases hx:x==n with
  | true=>rw[hx] at h;cases h;show List.lookup x ((n,NameKind.local)::_)=_;rw[List.lookup_cons,hx]
  | false=>rw[hx] at h;have ih:=mO (env:=env) h;split<;>(rw[List.lookup_cons,hx];exact ih)
theorem xo (C:bT X W Γ E cl k){sc:Scope}{xs:List Str}(hs:RF.eo sc xs Γ.N=true)(hc:RF.jl sc Γ.sc xs (RF.b8 xs Γ.N)=true)(Ca:Addr)(s:Sh)(H:Hp)(fp:List Addr){x:Str}{i:Nat}{px:Pos}(h:RF.slot ⟨xs++RF.b8 xs Γ.N,sc,false⟩ x=some i):PG (cN X sc xs (RF.b8 xs Γ.N) Ca s H fp) (.Name x px) (oF i):=by
 have B:=C.GR hs Ca s H fp;have ok:=jF.of (iX hc C.jm);unfold RF.slot at h;split at h
 .rename_i hk;have hl:sc.names.lookup x=some .local:=by
   rw[Bool.or_eq_true] at hk;rcases hk with z | z
   .exact eq_of_beq z
   .have z:sc.names.lookup x=some .cell:=eq_of_beq z;exfalso;have:∀{l:List (Str×NameKind)},l.lookup x=some .cell->(∀p∈l,p.2≠NameKind.cell)->False:=λ{l}=>by
     induction l with
     | nil=>intro h;cases h
     | cons p r ih=>
      intro h q;obtain⟨n,kk⟩:=p;rw[List.lookup_cons] at h;cases hx:x==n with
      | true=>rw[hx] at h;cases h;exact q _ List.mem_cons_self rfl
      | false=>rw[hx] at h;exact ih h λp hp=>q p (List.mem_cons_of_mem _ hp)
    exact this z ok.lS
  have hl2:(relabel sc X.env).names.lookup x=some .local:=mO hl;exact pv B.nd (by rw[B.N];exact cG h) (.inl hl2) (.inr hl2)
 .cases h
theorem ud (C:bT X W Γ E cl k){sc:Scope}{xs:List Str}(hs:RF.eo sc xs Γ.N=true)(hc:RF.jl sc Γ.sc xs (RF.b8 xs Γ.N)=true)(Ca:Addr)(s:Sh)(H:Hp)(fp:List Addr):∀{ts:List Expr} {is:List Nat},RF.slots ⟨xs++RF.b8 xs Γ.N,sc,false⟩ ts=some is->zA (cN X sc xs (RF.b8 xs Γ.N) Ca s H fp) ts (ic is)
 | [],is,h=>by cases h;exact zS
 | e::r,is,h=>by obtain⟨x,p,i,js,rfl,h1,h2,_,rfl⟩:=c0 h;exact vN (xo C hs hc Ca s H fp h1) (ud C hs hc Ca s H fp h2) rfl
theorem Lz (C:bT X W Γ E cl k){sc:Scope}{xs:List Str}(hs:RF.eo sc xs Γ.N=true)(hc:RF.jl sc Γ.sc xs (RF.b8 xs Γ.N)=true){tg:Expr}{is:List Nat}{one:Bool}(h:RF.jP ⟨xs++RF.b8 xs Γ.N,sc,false⟩ tg=some (is,one)):
 ∃gt:TG,mC X W is one gt/\∀Ca s H fp,PG (cN X sc xs (RF.b8 xs Γ.N) Ca s H fp) tg gt:=by
 unfold RF.jP at h;split at h
 .obtain⟨i,h1,h2⟩:=Option.map_eq_some_iff.mp h;cases h2;exact⟨_,zk,λCa s H fp=>xo C hs hc Ca s H fp h1⟩
 .rename_i ts kk pt;obtain⟨js,h1,h2⟩:=Option.map_eq_some_iff.mp h;cases h2;refine⟨FO X.K ts.length (ic is),?_,λCa s H fp=>?_⟩
  .obtain⟨_,_,a3⟩:=gj (env:=X.env) h1;exact CW a3
  .obtain⟨a1,a2,a3⟩:=gj (env:=(cN X sc xs (RF.b8 xs Γ.N) Ca s H fp).env) h1;exact a1 ▸ rT C.calm (ud C hs hc Ca s H fp h1) rfl a2
 .cases h
theorem JA (C:bT X W Γ E cl k)(KO:dz kt W.T cl k){sc:Scope}{xs:List Str}(hs:RF.eo sc xs Γ.N=true){ifs:List Expr}{t:RF.C Bool}(h:RF.Bi kt ⟨xs++RF.b8 xs Γ.N,sc,false⟩ ifs=some t)(Ca:Addr)(s:Sh)(H:Hp)(fp:List Addr):PF (cN X sc xs (RF.b8 xs Γ.N) Ca s H fp) ifs (tT X.K W E0 t):=by
 unfold RF.Bi at h;split at h
 .cases h;intro pins s σ H Q I ⟨M,ρ,S,sm,g⟩;exact MB pins s σ H Q I (aw.now g sm.con rfl)
 .cases h;exact Ks (KO.t rfl (C.GR hs Ca s H fp) _)
 .cases h
def vC (tg:Expr)(one:Bool):Prop:=match one with
 | true=>∃y p,tg = .Name y p
 | false=>∃ts k p,tg = .Tuple ts k p
theorem Fm {Γ:RF.Gm}{tg:Expr}{is:List Nat}{one:Bool}(h:RF.jP Γ tg=some (is,one)):vC tg one:=by
 unfold RF.jP at h;split at h
 .obtain⟨i,_,h2⟩:=Option.map_eq_some_iff.mp h;cases h2;exact⟨_,_,rfl⟩
 .obtain⟨i,_,h2⟩:=Option.map_eq_some_iff.mp h;cases h2;exact⟨_,_,_,rfl⟩
 .cases h
def sD {β:Type}(X:Cx)(tg it:Expr)(n:Nat)(σ:St)(H:Hp)(gt:TG)(tt:TT)(tb:TB β)(a0:β)(Q R:β->Hp->Prop):Prop:=
 (∃wi,PI X tg it wi/\wi σ H λJ H1=>zD J gt tt tb (λa _ H2=>Q a H2) a0 (List.replicate n none++σ) H1) \/
 ∃wi,PI X tg it wi/\wi σ H λJ H1=>zD J gt tt tb (λa _ H2=>R a H2) a0 (List.replicate n none++σ) H1
def AZ {β:Type}(X:Cx)(Q R:β->Hp->Prop):Prop:=∀ys H2 a o ts,H2 a=some (.bR o (.dT ts))->(∀o u,X.H₀ a≠some (.bR o u))->Q ys (upd H2 a (.dT ts))->R ys H2
theorem Sm.inner {K:Fg}{M:List Addr}{S:ae}{H:Hp}{ρ:RF.Env}{σ:St}(s:Sm K W M S H ρ σ)(n:Nat):Sm K W M S H (RF.inner n ρ) (List.replicate n none++σ):=by
 refine⟨s.con,λi d e=>?_,by unfold RF.inner;simp[s.len]⟩;unfold RF.inner at e;rcases Nat.lt_or_ge i n with hi | hi
 .rw[List.getElem?_append_left (by simpa using hi),List.getElem?_replicate,if_pos hi] at e;cases e
 .rw[List.getElem?_append_right (by simpa using hi),List.length_replicate] at e;obtain⟨v,h1,h2⟩:=s.env _ d e;exact⟨v,by rw[List.getElem?_append_right (by simpa using hi),List.length_replicate];exact h1,h2⟩
section
variable {α β:Type}{ra:List Addr->Hp->α->β->Prop}{is:List Nat}{one:Bool}{gt:TG}{t:RF.C Bool}{bd:α->RF.C α}{a0:α}{b0:β}{Q R:β->Hp->Prop}{n:Nat}{tg it:Expr}{pins:List (Addr×Obj)}{st:Sh}{σ:St}{H:Hp}{M:List Addr}{S:ae}{ρ:RF.Env}
theorem Lg (hT:vC tg one)(hg:mC X W is one gt)(qg:Cq ra)(Gz:∀M H H' a b,ra M H a b->p4 M H M H'->ra M H' a b)(qh:RF.blank is (RF.inner n ρ)=true)(r0:∀M H,ra M H a0 b0){cv:RF.C D}(hl:PE X it (tE X.K W E cv))(I:Inv X pins σ H st)(sm:Sm X.K W M S H ρ σ)(hR:AZ X Q R)
 (g:aw X.K W ra E M H ((cv ρ S).bind λx S1=>RF.iu is one t bd (RF.inner n ρ) a0 x S1) Q):sD X tg it n σ H gt (tT X.K W E0 t) (xK X.K W ra bd) b0 Q R:=by
 cases ev:cv ρ S with
 | bad=>rw[ev] at g;exact g.elim
 | ok y S1=>
  rw[ev,RF.R.bJ] at g;have lst:∀{m:Nat} {xs:List D},y = .ref m->RF.itemsOf S1 (.ref m)=some xs->aw X.K W ra E M H ((RF.bB (RF.eZ (.ref m) xs) is one t bd (RF.inner n ρ) xs a0 S1)) Q->sD X tg it n σ H gt (tT X.K W E0 t) (xK X.K W ra bd) b0 Q R:=λ{m xs} ey hi g0=>by subst ey;refine .inl ⟨_,qw hl,dG sm ev λM1 H1 u s1 u1 r1=>?_⟩;obtain⟨p,rfl,ea⟩:=bC r1;obtain⟨vs,h1,h2⟩:=s1.con.items hi ea;exact⟨p,rfl,⟨vs,h1⟩,λhz=>nT sP hg qg qh (s1.inner n) ⟨ea,hi⟩ (r0 _ _) (jh.qy (g0.up u1))⟩
  cases y with
  | tup xs=>refine .inl ⟨_,II hl,dG sm ev λM1 H1 u s1 u1 r1=>?_⟩;obtain⟨p,vs,rfl,hp,hv⟩:=cA r1;exact⟨p,rfl,⟨vs,cy.of hp⟩,λhz=>nT My hg qg qh (s1.inner n) (.tup hp hv) (r0 _ _) (jh.qy (aw.up g u1))⟩
  | ref m=>
   unfold RF.iu at g;dsimp only at g;split at g
   .rename_i af hS;obtain⟨hk,g⟩:=aw.guard g;refine .inr ⟨_,xA hl,dG sm ev λM1 H1 u s1 u1 r1=>?_⟩;obtain⟨p,rfl,ea⟩:=bC r1;have g:=g.up u1;obtain⟨H2,ts,hr,c2,u2,e2,h2⟩:∃H2 ts,(H2=H1\/kK H1 p H2)/\Cn X.K W M1 S1 H2/\Up M1 H1 M1 H2/\H2 p=some (.dT ts)/\Paired (bZ ofKeys M1 H2) af ts:=by
     rcases s1.con.at_ m _ p hS ea with⟨ks,h1,h2⟩|⟨ts,h1,h2⟩
     .have:=all_nil (g6 h2) hk (λk=>gE);subst this;cases h2;have re:kK H1 p (upd H1 p (.dT [])):=.inl ⟨h1,rfl⟩;obtain⟨c',u'⟩:=s1.con.ret hS ea re;exact⟨_,[],.inr re,c',u',aA,.nil⟩
     .exact⟨H1,ts,.inl rfl,s1.con,Up.refl _ _,h1,h2⟩
    refine⟨p,ts,H2,rfl,hr,e2,λod hz=>?_⟩;have n0:∀o u,X.H₀ p≠some (.bR o u):=λo u z=>by have:=u2.c6 _ _ _ (u1.c6 _ _ _ (I.base.c6 p o u z));rw[e2] at this;cases this
    have nt:c9 (H2 p):=d7 e2 rfl;have c3:Cn X.K W M1 (S1.set m (.c7 af)) (upd H2 p (.bR od (.dT ts))):=c2.bR hS ea e2 h2;have u3:Up M1 H2 M1 (upd H2 p (.bR od (.dT ts))):=aW nt;have s3:Sm X.K W M1 (S1.set m (.c7 af)) (upd H2 p (.bR od (.dT ts))) ρ σ:=s1.to c3 (u2.trans u3);have hlen:af.length=ts.length:=Paired.length h2;refine nT (yN hlen (keysAt h2)) hg qg qh (s3.inner n) aA (r0 _ _) ?_;cases er:RF.bB (λ_=>true) is one t bd (RF.inner n ρ) (af.map (·.1)) a0 (S1.set m (.c7 af)) with
    | bad=>rw[er] at g;exact g.elim
    | ok ys S4=>
     rw[er] at g;have g3:aw X.K W ra E M1 H1 (match S4[m]? with | some (.c7 oz)=>.ok ys (S4.set m (.aN oz)) | _=>.bad) Q:=g;intro M4 H4 σ4 vs s4 u4 r4;have e4:H4 p=some (.bR od (.dT ts)):=u4.c6 _ _ _ aA;refine hR vs H4 p od ts e4 n0 ?_;split at g3
     .rename_i oz hS4;exact aw.at_ g3 (s4.con.vH hS4 (dU u4.pre ea) e4) (u2.trans (ze (o:=.dT ts) e2 u4)) (Gz _ _ _ _ _ r4 (jM λxs z=>by rw[e4] at z;cases z))
     .exact g3.elim
   .rename_i xs hS;exact lst rfl (by unfold RF.itemsOf;dsimp only;rw[hS]) g
   .exact g.elim
  | str z=>unfold RF.iu at g;dsimp only at g;obtain⟨ho,g⟩:=aw.guard g;subst ho;obtain⟨y,py,rfl⟩:=hT;refine .inl ⟨_,Le hl,dG sm ev λM1 H1 u s1 u1 r1=>?_⟩;cases r1;exact⟨z,rfl,nT MT hg qg qh (s1.inner n) trivial (r0 _ _) (jh.qy (aw.up g u1))⟩
  | _=>exact g.elim
theorem DA (C:bT X W Γ E cl k)(KO:dz kt W.T cl k)(hT:vC tg one)(hg:mC X W is one gt)(qg:Cq ra)(Gz:∀M H H' a b,ra M H a b->p4 M H M H'->ra M H' a b)(r0:∀M H,ra M H a0 b0){src:RF.Src}(hs:RF.srcOf W.T kt Γ it=some src)(I:Inv X pins σ H st)(sm:Sm X.K W M S H ρ σ)(hR:AZ X Q R)
 (g:aw X.K W ra E M H (RF.ie n src is one t bd a0 ρ S) Q):sD X tg it n σ H gt (tT X.K W E0 t) (xK X.K W ra bd) b0 Q R:=by
 obtain⟨qh,g⟩:=aw.guard g;have dyn:∀{src:RF.Src},(if RF.dI it=true then some (RF.Src.dyn (kt.e Γ it)) else none)=some src->aw X.K W ra E M H (match src with
  | .dyn c=>(c ρ S).bind λx S1=>RF.iu is one t bd (RF.inner n ρ) a0 x S1
  | .range c=>(c ρ S).bind λx S1=>match x with
   | .int j=>RF.aE (RF.eX j&&decide (j.toNat<=sizeLine)) ((RF.bB (λ_=>true) is one t bd (RF.inner n ρ) (RF.d5 0 j.toNat) a0 S1))
   | _=>.bad
  | .down _=>.bad) Q->sD X tg it n σ H gt (tT X.K W E0 t) (xK X.K W ra bd) b0 Q R:=λ{src} h g=>by
  split at h
  .cases h;exact Lg hT hg qg Gz qh r0 (KO.e rfl C it) I sm hR g
  .cases h
 unfold RF.srcOf at hs;split at hs
 .rename_i r pr a pc;split at hs
  .rename_i hr;obtain⟨rfl,hgl,hp⟩:=hr;cases hs;have ha:=KO.e rfl C a;have args:PA X [a] (pq (tE X.K W E (kt.e Γ a)) lX):=dQ ha gF (aC hp);have DY:PI X tg (.Call (.Name "range" pr) [a] [] pc) (Aj (pq (tE X.K W E (kt.e Γ a)) lX)):=uj (C.gl hgl).1 (C.top.blt _ (by simp[cD])) args (by rw[aC hp];rfl);refine .inl ⟨_,DY,?_⟩;dsimp only at g;refine bH sm g λM1 H1 d u S1 s1 u1 r1 g1=>?_;cases d with
   | int j=>obtain⟨hz,g1⟩:=aw.guard g1;unfold RF.eX at hz;simp only[Bool.and_eq_true,decide_eq_true_eq] at hz;cases r1;exact⟨j,rfl,hz.1.1,hz.1.2,nT wo hg qg qh (s1.inner n) trivial (r0 _ _) (jh.qy g1)⟩
   | _=>exact g1.elim
  .exact dyn hs g
 .split at hs
  .cases hs;exact g.elim
  .cases hs
 .exact dyn hs g
end
theorem l7 {T:Tab}{it:Expr}{src:RF.Src}(h:RF.srcOf T kt Γ it=some src)(env:Env):∀v,foldedSetIterable it env v=pure v:=by
 have no:RF.dI it=true->∀v,foldedSetIterable it env v=pure v:=λhn v=>by cases it<;>first | rfl | (simp[RF.dI] at hn)
 unfold RF.srcOf at h;split at h
 .split at h
  .intro v;rfl
  .split at h
   .rename_i hn;exact no hn
   .cases h
 .split at h
  .intro v;rfl
  .cases h
 .split at h
  .rename_i hn;exact no hn
  .cases h
def tL {α β:Type}(K:Fg)(W:bw)(ra:List Addr->Hp->α->β->Prop)(ob:β->HO)(E:XK)(c:RF.C α):TE:=λσ H Q=>tG K W ra E c σ H λys H2=>∀p,H2 p=none->Q (.ref p) (upd H2 p (ob ys))
theorem Gh {H:Hp}{a b:Addr}{x y:HO}(h:a≠b):upd (upd H a x) b y=upd (upd H b y) a x:=by
 funext c
 unfold upd
 by_cases h1:c=a<;>by_cases h2:c=b
 .exact absurd (h1.symm.trans h2) h
 .subst h1;simp[h2]
 .subst h2;simp[h1]
 .simp[h1,h2]
structure LB (X:Cx)(W:bw)(kt:RF.d0)(Γ:RF.Gm){α β:Type}(e:Expr)(ra:List Addr->Hp->α->β->Prop)(ob:β->HO)(a0:α)(b0:β)(c:RF.C α):Prop where
 up:Cq ra
 dW:∀M H H' a b,ra M H a b->p4 M H M H'->ra M H' a b
 nil:∀M H,ra M H a0 b0
 ex:∃sc tg it ifs mk fP xs bd src is one t gt,Hy X e sc tg it ifs mk fP/\G1 X.prog X.w β ob b0 mk/\RF.jl sc Γ.sc xs (RF.b8 xs Γ.N)=true/\RF.eo sc xs Γ.N=true/\RF.srcOf W.T kt Γ it=some src/\vC tg one/\mC X W is one gt/\c=RF.ie xs.length src is one t bd a0 /\
  (∀Ca s H fp,PG (cN X sc xs (RF.b8 xs Γ.N) Ca s H fp) tg gt)/\(∀Ca s H fp,PF (cN X sc xs (RF.b8 xs Γ.N) Ca s H fp) ifs (tT X.K W E0 t))/\(∀Ca s H fp D,PB (cN X sc xs (RF.b8 xs Γ.N) Ca s H fp) D ob (fP D (cN X sc xs (RF.b8 xs Γ.N) Ca s H fp).env) (xK X.K W ra bd)) /\
  (∃p0,∀u,evalThenUse e X.env u=(do let _ <-comprehension e sc X.env p0 mk false (eval it X.env) (some u)))
 sw:∀y py l,∃bb:Bool,swapsWith e (some (.Name y py)) l X.env=pure bb/\(bb=true->X.env.kindOf y=some .local)
theorem GW (C:bT X W Γ E cl k){sc:Scope}{xs:List Str}(mY:RF.eo sc xs Γ.N=true):(∀(j:Nat) (y:Str),(RF.b8 xs Γ.N)[j]?=some y->(∃p∈sc.names,p.1=y)->X.N[j]?=some y)/\(RF.b8 xs Γ.N).length=X.N.length:=
 ⟨λj y h1 h2=>by rw[C.N];exact Gb mY j y h1 h2,by rw[C.N];unfold RF.b8;simp⟩
theorem yZ {β:Type}{ob:β->HO}(X:Cx)(Q:Addr->Hp->Prop):AZ X (λys H2=>∀p,H2 p=none->Q p (upd H2 p (ob ys))) (λys H2=>∀p,H2 p=none->∃d o af,upd H2 p (ob ys) d=some (.bR o (.dT af))/\(∀o u,X.H₀ d≠some (.bR o u))/\Q p (upd (upd H2 p (ob ys)) d (.dT af))):=by
 intro ys H2 a o ts h1 h2 q p hp;have np:p≠a:=λz=>by subst z;rw[h1] at hp;cases hp
 refine⟨a,o,ts,by rw[ax (Ne.symm np)];exact h1,h2,?_⟩;rw[Gh np];exact q p (by rw[ax np];exact hp)
theorem tI (C:bT X W Γ E cl k)(KO:dz kt W.T cl k){α β:Type}{ra:List Addr->Hp->α->β->Prop}{ob:β->HO}{a0:α}{b0:β}{e:Expr}{c:RF.C α}(h:LB X W kt Γ e ra ob a0 b0 c):PE X e (tL X.K W ra ob E c):=by
 obtain⟨sc,tg,it,ifs,mk,fP,xs,bd,src,is,one,t,gt,cp,lT,aq,mY,hs,hT,hg,rfl,hG,ht,hb,_⟩:=h.ex;have up:=h.up;have dW:=h.dW;have nil:=h.nil;intro pins st σ H Q I ⟨M,ρ,S,sm,g⟩;have goal:=DA (tg:=tg) C KO hT hg up dW nil hs I sm (yZ X λp H=>Q (.ref p) H) g;obtain⟨hM,hlen⟩:=GW C mY;rcases goal with⟨wi,hi,hw⟩|⟨wi,hi,hw⟩
 .exact y7 C.calm cp lT (iX aq C.jm) hM hlen hi hG ht hb (l7 hs X.env) pins st σ H Q I hw
 .exact Jl (y7 C.calm cp lT (iX aq C.jm) hM hlen hi hG ht hb (l7 hs X.env)) pins st σ H Q I hw
theorem Bs {α:Type}{T:Tab}{Γ':RF.Gm}{n:Nat}{tg it:Expr}{ifs:List Expr}{bd f:α->RF.C α}(h:RF.El T kt Γ Γ' n tg it ifs bd=some f):∃src is one t,RF.srcOf T kt Γ it=some src/\RF.jP Γ' tg=some (is,one)/\RF.Bi kt Γ' ifs=some t/\f=RF.ie n src is one t bd:=by
 unfold RF.El at h;split at h
 .rename_i s is one t h1 h2 h3;cases h;exact⟨s,is,one,t,h1,h2,h3,rfl⟩
 .cases h
theorem Bk {sc:Scope}{xs:List Str}{Γ':RF.Gm}(h:RF.EO Γ sc xs=some Γ'):RF.jl sc Γ.sc xs (RF.b8 xs Γ.N)=true/\RF.eo sc xs Γ.N=true/\Γ'=⟨xs++RF.b8 xs Γ.N,sc,false⟩:=by
 unfold RF.EO at h;split at h
 .rename_i z;cases h;exact⟨z.1,z.2,rfl⟩
 .cases h
theorem Es:Cq ay:=λ_ _ _ _ _ _ r u=>r.up u
theorem jH (C:bT X W Γ E cl k)(KO:dz kt W.T cl k){e:Expr}{c:RF.C (List D)}(h:RF.iT W.T kt Γ e=some c):LB X W kt Γ e ay HO.lst [] [] c:=by
 unfold RF.iT at h;split at h
 .rename_i elt tg it ifs sc p;obtain⟨Γ',h1,h⟩:=Option.bind_eq_some_iff.mp h;obtain⟨aq,mY,rfl⟩:=Bk h1;obtain⟨f,h2,rfl⟩:=Option.map_eq_some_iff.mp h;obtain⟨src,is,one,t,h3,h4,h5,rfl⟩:=Bs h2;obtain⟨gt,hg,hG⟩:=Lz C mY aq h4;exact⟨Es,λ_ _ _ _ _ r u=>r.dW u,λ_ _=>.nil,⟨sc,tg,it,ifs,_,_,_,_,src,is,one,t,gt,Oc,JS,aq,mY,h3,Fm h4,hg,rfl,hG,λCa s H fp=>JA C KO mY h5 Ca s H fp,λCa s H fp D=>PB.imp (J4 (KO.e rfl (C.GR mY Ca s H fp) elt)) JT,⟨_,λ_=>rfl⟩⟩,λy py l=>⟨_,rfl,λz=>by simp only[Bool.and_eq_true] at z;exact eq_of_beq z.1.1.2⟩⟩
 .cases h
theorem zI (C:bT X W Γ E cl k)(KO:dz kt W.T cl k){e:Expr}{c:RF.C (List D)}(h:RF.iT W.T kt Γ e=some c):PE X e (tE X.K W E λρ S=>(c ρ S).bind λys S1=>RF.fI (.lst ys) S1):=by refine(tI C KO (jH C KO h)).imp λσ H Q ⟨M,ρ,S,sm,g⟩=>?_;exact bH (c:=c) sm g λM1 H1 ys vs S1 s1 u1 r1 g1=>iP g1 s1.con r1
theorem Ln (C:bT X W Γ E cl k)(KO:dz kt W.T cl k){e:Expr}{c:RF.C (List D)}{pf:Pos}(h:RF.iT W.T kt Γ e=some c)(hp:RF.aL e=true)(hg:RF.fb Γ "all" = true):PE X (.Call (.Name "all" pf) [e] [] pos) (tE X.K W E (RF.sZ c)):=by
 obtain⟨g1,g2⟩:=C.gl hg;refine(iK (Dn C.calm) g1 (C.top.blt _ (by simp[cD])) boot_all (dQ (tI C KO (jH C KO h)) gF (aC hp)) (by decide +kernel) g2 (aC hp) (bM rfl)).imp λσ H Q ⟨M,ρ,S,sm,g⟩=>?_;refine bH (c:=c) sm g λM1 H1 ys vs S1 s1 u1 r1 g1 p hp=>?_;split at g1
 .rename_i bs hb;refine⟨p,bs,rfl,?_,aw.at_ g1 (s1.con.fresh hp) (bP hp) (.bl _)⟩;rw[<-CC r1 hb];exact cm.of aA
 .exact g1.elim
theorem EZ (C:bT X W Γ E cl k)(KO:dz kt W.T cl k){e:Expr}{c:RF.C (List D)}{pf:Pos}(h:RF.iT W.T kt Γ e=some c)(hp:RF.aL e=true)(hg:RF.fb Γ "tuple" = true):PE X (.Call (.Name "tuple" pf) [e] [] pos) (tE X.K W E (RF.sg c)):=by obtain⟨g1,g2⟩:=C.gl hg;refine(kC mR g1 (C.top.blt _ (by simp[cD])) boot_tuple (dQ (tI C KO (jH C KO h)) gF (aC hp)) (by decide +kernel) g2 (aC hp) (bM rfl)).imp λσ H Q ⟨M,ρ,S,sm,g⟩=>?_;refine bH (c:=c) sm g λM1 H1 ys vs S1 s1 u1 r1 g1 p hp=>?_;refine⟨p,vs,rfl,.inl ⟨cm.of aA,λl hl=>?_⟩⟩;have c2:=(s1.con.fresh (o:=.lst vs) hp).fresh (o:=.tup vs) hl;have u2:=(bP (M:=M1) (o:=.lst vs) hp).trans (bP (o:=.tup vs) hl);exact aw.at_ g1 c2 u2 (.tup aA (r1.up u2))
end
end L2
namespace L2
open PySem PySem.Spec PyProof.Rows
open RF (D O ae Tab)
section
variable {X:Cx}{W:bw}{Γ:RF.Gm}{E:XK}{cl:RF.Calls}{k:Nat}{kt:RF.d0}
theorem iG {es:List Expr}{f:Expr->RF.C D}(h:∀e,PE X e (tE X.K W E (f e))):∀e∈es,PE X e (tE X.K W E (f e)):=λe _=>h e
section
variable {a b c e:Expr}{ca cb cc:RF.C D}{pos:Pos}
end
theorem J8 (KO:dz kt W.T cl k)(C:bT X W Γ E cl k){a:Expr}{pf pos:Pos}(hg:RF.fb Γ "len" = true)(hp:RF.aL a=true):PE X (.Call (.Name "len" pf) [a] [] pos) (tE X.K W E (RF.Fs W.T cl kt Γ a)):=by
 unfold RF.Fs;split
 .rename_i b hb;unfold RF.setArg at hb;split at hb
  .rename_i s _ b' _;split at hb
   .rename_i z;cases hb;obtain⟨rfl,z1,z2⟩:=z;unfold RF.OP at z1;simp only[Bool.and_eq_true] at z1;exact C9 C hg z1.1.1.1.1 (KO.e rfl C b) z2
   .cases hb
  .cases hb
 .exact Kk C hg (KO.e rfl C a) hp
theorem Cr {l:List Str}(h:RF.j4 l=true):l.Nodup:=ml h
theorem EI (KO:dz kt W.T cl k)(C:bT X W Γ E cl k)(x:Str)(args:List Expr)(kws:List Keyword)(pf pos:Pos):PE X (.Call (.Name x pf) args kws pos) (tE X.K W E (RF.Bu W.T cl kt Γ x args kws)):=by
 have he:=λe=>KO.e rfl C e;unfold RF.Bu;split
 .exact bu
 .rename_i hh;simp only[not_or,Bool.not_eq_false,Bool.not_eq_true] at hh;obtain⟨hg,hp,hn,hs,_⟩:=hh;split
  .rename_i c i _ hc hi;split
   .rename_i hM;obtain⟨h1,h2,h3,h4⟩:=hM;cases args with
    | nil=>cases hn
    | cons e es=>refine xi C hc hi h1 h2 hg he hp hs ?_ (Cr h4);rw[List.all_eq_true] at h3 ⊢;intro q hq;obtain⟨kw,k1,k2⟩:=List.mem_filterMap.mp hq;have:=h3 kw k1;rw[List.any_eq_true] at this ⊢;obtain⟨p,p1,p2⟩:=this;refine⟨p,p1,decide_eq_true ?_⟩;have p2:=of_decide_eq_true p2;rw[k2] at p2;exact Option.some.inj p2
   .exact bu
  .exact bu
theorem FQ (KO:dz kt W.T cl k)(C:bT X W Γ E cl k)(x:Str)(args:List Expr)(pf pos:Pos):PE X (.Call (.Name x pf) args [] pos) (tE X.K W E (RF.Al W.T cl kt Γ x args)):=by
 have he:=λe=>KO.e rfl C e;unfold RF.Al;split
 .exact bu
 .rename_i hh;simp only[not_or,Bool.not_eq_false] at hh;obtain⟨hg,hp⟩:=hh;split
  .rename_i i hi;exact HL C hi hg (iG he) hp
  .split
   .rename_i c hc;split
    .rename_i i hi;split
     .rename_i hM;exact JB C hc hi hM.1 hM.2 hg he hp
     .exact bu
    .exact bu
   .split
    .exact bu
    .split
     .rename_i hx;subst hx;split
      .rename_i a t pt;split
       .rename_i d hd;split
        .rename_i ht;have DZ:RF.aL a=true:=by simp only[List.all_cons,Bool.and_eq_true] at hp;exact hp.1
         exact MA C hg ht.1 hd (he a) DZ
        .exact bu
       .exact bu
      .exact bu
     .split
      .rename_i a;have DZ:RF.aL a=true:=by simpa using hp
       have gen:PE X (.Call (.Name x pf) [a] [] pos) (tE X.K W E (match RF.wJ x 1 with | some b=>RF.ao (RF.bV b) [kt.e Γ a] | none=>RF.a7)):=by
        split
        .rename_i b hb;exact rN (es:=[a]) (f:=kt.e Γ) C hb hg (iG he) hp
        .exact bu
       split
       .rename_i hx;subst hx;exact J8 KO C hg DZ
       .split
        .rename_i c hc;split
         .rename_i hx;subst hx;exact Ln C KO hc DZ hg
         .split
          .rename_i hx;subst hx;exact EZ C KO hc DZ hg
          .exact gen
        .exact gen
      .split
       .rename_i b hb;exact rN C hb hg (iG he) hp
       .exact bu
theorem Cb (c:PySem.Const)(kd:Nat)(p:Pos):PE X (.Constant c kd p) (tE X.K W E (RF.Cu c)):=by
 cases c with
 | none=>exact nP (t:=tC .aj) KW λ_ _=>.aj
 | bool b=>exact nP (t:=tC (.bl b)) NP λ_ _=>.bl b
 | int i=>exact nP (t:=tC (.int i)) xH λ_ _=>.int i
 | str x=>exact nP (t:=tC (.str x)) LR λ_ _=>.str x
 | _=>exact bu
theorem F8 (he:∀e,PE X e (tE X.K W E (kt.e Γ e)))(op:BoolOp)(es:List Expr)(p:Pos):PE X (.BoolOp op es p) (tE X.K W E (RF.G9 kt Γ op p es)):=by
 match es with
 | []=>exact bu
 | [a]=>exact Ll (he a)
 | a::b::r=>cases op with
  | And=>exact Lu (he _) (he _)
  | Or=>exact NX (he _) (he _)
theorem Jb (he:∀e,PE X e (tE X.K W E (kt.e Γ e)))(C:bT X W Γ E cl k)(a:Expr)(ops:List CmpOp)(bs:List Expr)(p:Pos):PE X (.Compare a ops bs p) (tE X.K W E (RF.Fx kt Γ a ops bs)):=by
 unfold RF.Fx;split
 .rename_i op b;split
  .rename_i hs;obtain⟨r,h1,h2⟩:=lF (X:=X) (W:=W) (E:=E) C.units op;exact Ka h1 h2 (he a) (he b) (zy hs)
  .exact bu
 .rename_i o1 o2 b c;split
  .rename_i hs;obtain⟨r1,h1,h2⟩:=lF (X:=X) (W:=W) (E:=E) C.units o1;obtain⟨r2,h3,h4⟩:=lF (X:=X) (W:=W) (E:=E) C.units o2;exact Ez h1 h3 h2 h4 (he a) (he b) (he c) hs.2
  .exact bu
 .exact bu
theorem IZ (he:∀e,PE X e (tE X.K W E (kt.e Γ e)))(C:bT X W Γ E cl k)(a b:Expr)(p:Pos):PE X (.Subscript a b p) (tE X.K W E (RF.LZ kt Γ a b)):=by
 have gen:∀b,RF.eY b=true->PE X (.Subscript a b p) (tE X.K W E (RF.bQ (kt.e Γ a) (kt.e Γ b))):=λb hs=>Oh C (he _) (he _) hs;cases b with
 | Slice lo hi st q=>cases st with
  | none=>exact Er (he _) (λe _=>he e) (λe _=>he e)
  | some _=>exact bu
 | _=>exact gen _ rfl
theorem K2 (KO:dz kt W.T cl k)(C:bT X W Γ E cl k)(f:Expr)(args:List Expr)(kws:List Keyword)(p:Pos):PE X (.Call f args kws p) (tE X.K W E (RF.Mg W.T cl kt Γ f args kws p)):=by
 have he:=λe=>KO.e rfl C e;unfold RF.Mg;split
 .split
  .exact FQ KO C _ _ _ _
  .exact EI KO C _ _ _ _ _
 .split
  .rename_i h;obtain⟨h0,h1,h2,h3,h4,h5⟩:=h;cases kws with
   | nil=>exact IX C (he _) (iG he) h2 h1 h3 h4 h5
   | cons _ _=>cases h0
  .exact bu
 .exact bu
theorem xF (KO:dz kt W.T cl k)(C:bT X W Γ E cl k)(e:Expr):PE X e (tE X.K W E (RF.rF W.T cl kt Γ e)):=by
 have he:=λe=>KO.e rfl C e;cases e with
 | Constant c kd p=>exact Cb c kd p
 | Name x p=>exact Jh C _
 | BinOp a op b p=>obtain⟨r,h1,h2⟩:=Kj (X:=X) (W:=W) (E:=E) op;exact Mr h1 h2 (he a) (he b)
 | UnaryOp op a p=>cases op with
  | Not=>exact Ls (he _)
  | USub=>exact Ky (he _)
  | _=>exact bu
 | BoolOp op es p=>exact F8 he op es p
 | IfExp c a b p=>exact N7 (KO.t rfl C _) (he _) (he _)
 | Compare a ops bs p=>exact Jb he C a ops bs p
 | Tuple es kd p=>
  show PE X _ (tE X.K W E (if es.all RF.aL=true then RF.bp (es.map (kt.e Γ)) else RF.a7));split
  .rename_i hp;exact MM (iG he) hp
  .exact bu
 | List es p=>
  show PE X _ (tE X.K W E (if es.all RF.aL=true then RF.aR (es.map (kt.e Γ)) else RF.a7));split
  .rename_i hp;exact Mu (iG he) hp
  .exact bu
 | Dict ks vs p=>
  show PE X _ (tE X.K W E (if ks.isEmpty=true/\vs.isEmpty=true then RF.jD else RF.a7));split
  .rename_i h;cases ks with
   | cons _ _=>cases h.1
   | nil=>cases vs with
    | cons _ _=>cases h.2
    | nil=>exact Ib
  .exact bu
 | Attribute a f p=>
  show PE X _ (tE X.K W E (match RF.bY W.T.cJ f with | some i=>if RF.ji a=true then RF.aH (kt.e Γ a) i else RF.a7 | none=>RF.a7));split
  .rename_i i hi;split
   .rename_i hb;exact Lj C (he a) hi hb
   .exact bu
  .exact bu
 | Subscript a b p=>exact IZ he C a b p
 | ListComp el gs sc p=>
  show PE X _ (tE X.K W E (match RF.iT W.T kt Γ (.ListComp el gs sc p) with | some c=>λρ S=>(c ρ S).bind λys S1=>RF.fI (.lst ys) S1 | none=>RF.a7));split
  .rename_i c hc;exact zI C KO hc
  .exact bu
 | Call f args kws p=>exact K2 KO C f args kws p
 | _=>exact bu
theorem Bo (KO:dz kt W.T cl k)(C:bT X W Γ E cl k){a b:Expr}{op:CmpOp}{p:Pos}:PT X (.Compare a [op] [b] p) (tT X.K W E (RF.av (RF.rF W.T cl kt Γ (.Compare a [op] [b] p)))):=by
 have he:=λe=>KO.e rfl C e;show PT X _ (tT X.K W E (RF.av (if RF.dI b=true then RF.aB op (kt.e Γ a) (kt.e Γ b) else RF.a7)));split
 .rename_i hs;obtain⟨r,h1,h2⟩:=lF (X:=X) (W:=W) (E:=E) C.units op;exact As h1 h2 (he a) (he b) (zy hs)
 .intro pins s σ H Q I ⟨M,ρ,S,sm,g⟩;exact g.elim
theorem A6 (KO:dz kt W.T cl k)(C:bT X W Γ E cl k){a b c:Expr}{o1 o2:CmpOp}{p:Pos}:PT X (.Compare a [o1,o2] [b,c] p) (tT X.K W E (RF.av (RF.rF W.T cl kt Γ (.Compare a [o1,o2] [b,c] p)))):=by
 have he:=λe=>KO.e rfl C e;show PT X _ (tT X.K W E (RF.av (if RF.dI b=true/\RF.dI c=true then RF.iy o1 o2 (kt.e Γ a) (kt.e Γ b) (kt.e Γ c) else RF.a7)));split
 .rename_i hs;obtain⟨r1,h1,h2⟩:=lF (X:=X) (W:=W) (E:=E) C.units o1;obtain⟨r2,h3,h4⟩:=lF (X:=X) (W:=W) (E:=E) C.units o2;exact xO h1 h3 h2 h4 (he a) (he b) (he c) hs.2
 .intro pins s σ H Q I ⟨M,ρ,S,sm,g⟩;exact g.elim
theorem zO (KO:dz kt W.T cl k)(C:bT X W Γ E cl k)(op:BoolOp)(vs:List Expr)(p:Pos):PW X (.BoolOp op vs p) (tT X.K W E (RF.stepT W.T kt Γ (.BoolOp op vs p))):=by
 have ht:=λe=>KO.t rfl C e;have bad:∀{e:Expr},PW X e (tT X.K W E RF.a7):=λ{e} wh pins s σ H Q I h=>(rp h).elim
 match vs with
 | []=>cases op<;>exact bad
 | [a]=>cases op with
  | And=>exact JP (ht a)
  | Or=>exact KY (ht a)
 | a::b::r=>cases op with
  | And=>exact Jy (ht a) (KO.w rfl C .And (b::r) p)
  | Or=>exact Mv (ht a) (KO.w rfl C .Or (b::r) p)
theorem F6 (KO:dz kt W.T cl k)(C:bT X W Γ E cl k)(e:Expr):PT X e (tT X.K W E (RF.stepT W.T kt Γ e)):=by
 have he:=λe=>KO.e rfl C e;have ht:=λe=>KO.t rfl C e;cases e with
 | UnaryOp op a p=>cases op with
  | Not=>exact Ii (ht a)
  | _=>exact gB
 | BoolOp op vs p=>exact(zO KO C op vs p).pt
 | IfExp _ _ _ _=>exact gB
 | Compare a ops bs p=>
  match ops,bs with
  | [op],[b]=>exact KO.c1 rfl C a op b p
  | [o1,o2],[b,c]=>exact KO.c2 rfl C a o1 o2 b c p
  | [],_=>exact gB
  | [_],[]=>exact gB
  | [_],_::_::_=>exact gB
  | [_,_],[]=>exact gB
  | [_,_],[_]=>exact gB
  | [_,_],_::_::_::_=>exact gB
  | _::_::_::_,_=>exact gB
 | _=>exact IP (he _) λ_=>rfl
theorem tK (T:Tab)(cl:RF.Calls)(k:Nat):∀n,dz (RF.qX T cl n) T cl k
 | 0=>⟨λ_ _ _=>bu,λ_ _ _=>gB,λ_ _ _ _ _=>λwh pins s σ H Q I h=>(rp h).elim,λ_ _ _ _ _ _=>λpins s σ H Q I ⟨M,ρ,S,sm,g⟩=>g.elim,λ_ _ _ _ _ _ _ _=>λpins s σ H Q I ⟨M,ρ,S,sm,g⟩=>g.elim⟩
 | n+1=>by
  have KO:=tK T cl k n;refine⟨λ{X W Γ E} hT C e=>?_,λ{X W Γ E} hT C e=>?_,λ{X W Γ E} hT C op vs p=>?_,λ{X W Γ E} hT C a op b p=>?_,λ{X W Γ E} hT C a o1 o2 b c p=>?_⟩
  .subst hT;exact xF KO C e
  .subst hT;exact F6 KO C e
  .subst hT;exact zO KO C op vs p
  .subst hT;exact Bo KO C
  .subst hT;exact A6 KO C
end
end L2
namespace L2
open PySem PySem.Spec PyProof.Rows
open RF (D O ae Tab)
section
variable {K:Fg}{W:bw}{M M1 M2:List Addr}{S S1 S2:ae}{H H1 H2:Hp}{ρ:RF.Env}{σ:St}{E:XK}
def br (K:Fg)(W:bw)(E:XK)(M:List Addr)(H:Hp)(r:RF.F)(D:Ends):Prop:=match r with
 | .nx ρ' S'=>∀M' H' σ',Sm K W M' S' H' ρ' σ'->Up M H M' H'->D.nx σ' H'
 | .bk ρ' S'=>∀M' H' σ',Sm K W M' S' H' ρ' σ'->Up M H M' H'->D.bk σ' H'
 | .ct ρ' S'=>∀M' H' σ',Sm K W M' S' H' ρ' σ'->Up M H M' H'->D.ct σ' H'
 | .rt d S'=>∀M' H' v,Cn K W M' S' H'->Up M H M' H'->au M' H' d v->D.rt v H'
 | .bad=>False
theorem br.up {r:RF.F}{D:Ends}(h:br K W E M H r D)(u:Up M H M1 H1):br K W E M1 H1 r D:=by
 cases r with
 | nx ρ' S'=>exact λM' H' σ' s u'=>h M' H' σ' s (u.trans u')
 | bk ρ' S'=>exact λM' H' σ' s u'=>h M' H' σ' s (u.trans u')
 | ct ρ' S'=>exact λM' H' σ' s u'=>h M' H' σ' s (u.trans u')
 | rt d S'=>exact λM' H' v c u'=>h M' H' v c (u.trans u')
 | bad=>exact h
def tF (K:Fg)(W:bw)(E:XK)(c:RF.CS):TS:=λD σ H=>∃M ρ S,Sm K W M S H ρ σ/\br K W E M H (c ρ S) D
theorem Ph {α β:Type}{rel:List Addr->Hp->α->β->Prop}{r:RF.R α}{f:α->ae->RF.F}{D:Ends}{Q1:β->Hp->Prop}(h:br K W E M H (RF.dY r f) D)
 (k:∀M1 H1 a b S1,Cn K W M1 S1 H1->Up M H M1 H1->rel M1 H1 a b->br K W E M1 H1 (f a S1) D->Q1 b H1):aw K W rel E M H r Q1:=by
 cases r with
 | ok a S1=>exact λM1 H1 b c1 u1 r1=>k M1 H1 a b S1 c1 u1 r1 (br.up h u1)
 | bad=>exact h
theorem i9 {α β:Type}{rel:List Addr->Hp->α->β->Prop}{c:RF.C α}{f:α->ae->RF.F}{D:Ends}{Q1:β->Hp->Prop}(s:Sm K W M S H ρ σ)(h:br K W E M H (RF.dY (c ρ S) f) D)
 (k:∀M1 H1 a b S1,Sm K W M1 S1 H1 ρ σ->Up M H M1 H1->rel M1 H1 a b->br K W E M1 H1 (f a S1) D->Q1 b H1):tG K W rel E c σ H Q1:=
 ⟨M,ρ,S,s,Ph h λM1 H1 a b S1 c1 u1 r1 g1=>k M1 H1 a b S1 (s.to c1 u1) u1 r1 g1⟩
theorem br.nx {D:Ends}(h:br K W E M H (.nx ρ S) D)(s:Sm K W M S H ρ σ):D.nx σ H:=h M H σ s (Up.refl _ _)
end
theorem PS.cT {X:Cx}{st:Stmt}{t:TS}(h:PS X.cT st t):PS X st t:=λpins s σ H D I hw=>
 wpAny_mono (h pins s σ H D (I.kZ _) hw) (λ_ _ q=>q.jc) λ_ _ z=>False.elim z
theorem cS {X:Cx}{K:Fg}{W:bw}{E:XK}{st:Stmt}:PS X st (tF K W E RF.cf):=λ_ _ _ _ _ _ ⟨_,_,_,_,g⟩=>g.elim
structure eO (X:Cx)(W:bw)(Γ:RF.Gm)(E:XK)(cl:RF.Calls)(k:Nat):Prop extends bT X W Γ E cl k where
 OD:cO (k+2) X.A
 fn:∀x,X.fn x=true
 sc:X.env.scope=Γ.sc
 kind:X.env.scope.kind = .function
theorem eO.cT {X:Cx}{W:bw}{Γ:RF.Gm}{E:XK}{cl:RF.Calls}{k:Nat}(C:eO X W Γ E cl k):eO X.cT W Γ E0 cl k:=
 ⟨⟨C.N,C.nd,C.jm,C.calm,C.room,Be,C.top⟩,C.OD,C.fn,C.sc,C.kind⟩
section
variable {X:Cx}{W:bw}{Γ:RF.Gm}{E:XK}{cl:RF.Calls}{k:Nat}{kt:RF.d0}{a b c e:Expr}{ca cb cc:RF.C D}{pos:Pos}
theorem xc {e:Expr}{t:Option Expr}{l:Nat}{env:Env}(h:RF.fY e=false):swapsWith e t l env=pure false:=by cases e<;>first | rfl | (simp[RF.fY] at h)
theorem jV {e:Expr}{t:Expr}{l:Nat}{env:Env}(h:∀x p,t ≠ .Name x p):swapsWith e (some t) l env=pure false:=by cases e<;>first | rfl | (cases t<;>first | rfl | exact absurd rfl (h _ _))
theorem IF:PS X (.Pass pos) (tF X.K W E RF.G3):=JR.imp λD σ H ⟨M,ρ,S,s,g⟩=>g.nx s
theorem F4:PS X (.Break pos) (tF X.K W E RF.nM):=EJ.imp λD σ H ⟨M,ρ,S,s,g⟩=>g M H σ s (Up.refl _ _)
theorem Je:PS X (.Continue pos) (tF X.K W E RF.GP):=yL.imp λD σ H ⟨M,ρ,S,s,g⟩=>g M H σ s (Up.refl _ _)
theorem IJ (he:PE X e (tE X.K W E ca))(hc:RF.fY e=false):PS X (.Expr e pos) (tF X.K W E (RF.bh ca)):=
 (HN he (xc hc)).imp λD σ H ⟨M,ρ,S,s,g⟩=>i9 s g λM1 H1 a b S1 s1 u1 r1 g1=>br.nx g1 s1
theorem Ld (he:PE X e (tE X.K W E ca)):PS X (.Return (some e) pos) (tF X.K W E (RF.retS ca)):=
 (KG he).imp λD σ H ⟨M,ρ,S,s,g⟩=>i9 s g λM1 H1 a b S1 s1 u1 r1 g1=>g1 M1 H1 b s1.con (Up.refl _ _) r1
theorem Jt:PS X (.Return none pos) (tF X.K W E (RF.retS (RF.cE .aj))):=
 ID.imp λD σ H ⟨M,ρ,S,s,g⟩=>g M H .aj s.con (Up.refl _ _) .aj
theorem Hf {f:Stmt->RF.CS}:∀{ss:List Stmt},(∀s∈ss,PS X s (tF X.K W E (f s)))->iC X ss (tF X.K W E (RF.ah (ss.map f)))
 | [],_=>HU.imp λD σ H ⟨M,ρ,S,s,g⟩=>g.nx s
 | st::ss,h=>by
  refine(E3 (h st List.mem_cons_self) (Hf λs hs=>h s (List.mem_cons_of_mem _ hs))).imp λD σ H ⟨M,ρ,S,s,g⟩=>?_;have g:br X.K W E M H ((f st ρ S).then (RF.ah (ss.map f))) D:=g;refine⟨M,ρ,S,s,?_⟩;cases e:f st ρ S with
  | nx ρ' S'=>rw[e,RF.F.Iv] at g;exact λM' H' σ' s' u'=>⟨M',ρ',S',s',br.up g u'⟩
  | rt d S'=>rw[e] at g;exact g
  | bk ρ' S'=>rw[e] at g;exact g
  | ct ρ' S'=>rw[e] at g;exact g
  | bad=>rw[e] at g;exact g
theorem N5 {ct:RF.C Bool}{A B:List Stmt}{ta tb:RF.CS}(hc:PT X c (tT X.K W E ct))(ha:iC X A (tF X.K W E ta))(hb:iC X B (tF X.K W E tb)):PS X (.If c A B pos) (tF X.K W E (RF.bA ct ta tb)):=by
 refine(Nw hc ha hb).imp λD σ H ⟨M,ρ,S,s,g⟩=>i9 s g λM1 H1 x y S1 s1 u1 r1 g1=>?_;subst r1;cases x with
 | true=>exact qj ⟨M1,ρ,S1,s1,g1⟩
 | false=>exact qE ⟨M1,ρ,S1,s1,g1⟩
theorem fF (C:eO X W Γ E cl k){x:Str}{i:Nat}(h:RF.slot Γ x=some i):X.N[i]?=some x/\Loc X.env.scope x:=by
 unfold RF.slot at h;split at h
 .rename_i hk;refine⟨by rw[C.N];exact cG h,?_⟩;rw[C.sc];rw[Bool.or_eq_true] at hk;rcases hk with z | z
  .exact .inl (eq_of_beq z)
  .exact .inr (eq_of_beq z)
 .cases h
theorem C6 (C:eO X W Γ E cl k){x:Str}{i:Nat}{px:Pos}(hi:RF.slot Γ x=some i)(he:PE X e (tE X.K W E ca))(hs:swapsWith e (some (.Name x px)) pos.line X.env=pure false):PS X (.Assign [.Name x px] e pos) (tF X.K W E (RF.bf i ca)):=by obtain⟨h1,h2⟩:=fF C hi;exact(M6 C.nd h1 h2 he hs (.inl (C.fn x))).imp λD σ H ⟨M,ρ,S,s,g⟩=>i9 s g λM1 H1 a b S1 s1 u1 r1 g1=>br.nx g1 (s1.set r1)
end
end L2
namespace L2
open PySem PySem.Spec PyProof.Rows
open RF (D O ae Tab)
section
variable {X:Cx}{W:bw}{Γ:RF.Gm}{E:XK}{cl:RF.Calls}{k:Nat}{kt:RF.d0}{a b c e:Expr}{ca cb cc:RF.C D}{pos:Pos}
theorem N8 (C:eO X W Γ E cl k)(KO:dz kt W.T cl k){y:Str}{i:Nat}{py:Pos}(hi:RF.slot Γ y=some i){α β:Type}{ra:List Addr->Hp->α->β->Prop}{ob:β->HO}{a0:α}{b0:β}{c:RF.C α}{o:α->O}(h:LB X W kt Γ e ra ob a0 b0 c)
 (kO:∀a,fL (some (o a))=false) (hn:∀{M H p a b},H p=none->ra M H a b->eU X.K W (M++[p]) (upd H p (ob b)) p (o a)) (hpe:PE X e (tE X.K W E λρ S=>(c ρ S).bind λys S1=>RF.fI (o ys) S1)):
 PS X (.Assign [.Name y py] e pos) (tF X.K W E (RF.bf i λρ S=>(c ρ S).bind λys S1=>RF.fI (o ys) S1)):=by
 obtain⟨h1,h2⟩:=fF C hi;obtain⟨bb,hsw,hloc⟩:=h.sw y py pos.line;cases bb with
 | false=>exact C6 C hi hpe hsw
 | true=>
  have hy:X.env.scope.names.lookup y=some .local:=hloc rfl;obtain⟨sc,tg,it,ifs,mk,fP,xs,bd,src,is,one,t,gt,cp,lT,aq,mY,hs,hT,hg,rfl,hG,ht,hb,p0,hu⟩:=h.ex;intro pins st σ H D I ⟨M,ρ,S,sm,g⟩;have g2:aw X.K W ra E M H (RF.ie xs.length src is one t bd a0 ρ S) (λys H2=>∀p,H2 p=none->D.nx (σ.set i (some (.ref p))) (upd H2 p (ob ys))):=by
   have g:br X.K W E M H (RF.dY ((RF.ie xs.length src is one t bd a0 ρ S).bind λys S1=>RF.fI (o ys) S1) λd S1=>.nx (ρ.set i (some d)) S1) D:=g;cases ev:RF.ie xs.length src is one t bd a0 ρ S with
   | bad=>rw[ev] at g;exact g
   | ok ys S1=>rw[ev] at g;intro M1 H1 vs c1 u1 r1 q hq;have g:br X.K W E M H (.nx (ρ.set i (some (.ref S1.length))) (S1++[o ys])) D:=g;have s1:=sm.to c1 u1;have s2:Sm X.K W (M1++[q]) (S1++[o ys]) (upd H1 q (ob vs)) ρ σ:=s1.to (c1.new hq (kO _) (hn hq r1)) (i6 hq);exact g _ _ _ (s2.set (n8 c1)) (u1.trans (i6 hq))
  have goal:=DA (tg:=tg) C.tobT KO hT hg h.up h.dW h.nil hs I sm (yZ X λp H=>D.nx (σ.set i (some (.ref p))) H) g2;obtain⟨hM,hlen⟩:=GW C.tobT mY;have hx:exec (.Assign [.Name y py] e pos) X.env=(standAt pos >>= λ_=>(do let _ <-comprehension e sc X.env p0 mk false (eval it X.env) (some (assign (.Name y py) X.env))) >>= λ_=>pure .next):=by rw[exec_Assign_Name_used _ _ _ _ hsw,hu]
  rcases goal with⟨wi,hwi,hw⟩|⟨wi,hwi,hw⟩
  .exact zd C.calm C.nd h1 hy hx cp lT (iX aq C.jm) hM hlen hwi hG ht hb (l7 hs X.env) pins st σ H D I hw
  .exact zq (zd C.calm C.nd h1 hy hx cp lT (iX aq C.jm) hM hlen hwi hG ht hb (l7 hs X.env)) pins st σ H D I hw
theorem J7 (C:eO X W Γ E cl k)(KO:dz kt W.T cl k){y:Str}{i:Nat}{py:Pos}{cL:RF.C (List D)}(hi:RF.slot Γ y=some i)(h:RF.iT W.T kt Γ e=some cL):
 PS X (.Assign [.Name y py] e pos) (tF X.K W E (RF.bf i λρ S=>(cL ρ S).bind λys S1=>RF.fI (.lst ys) S1)):=
 N8 C KO hi (jH C.tobT KO h) (λ_=>rfl) (λhp r=>⟨_,aA,r.up (i6 hp)⟩) (zI C.tobT KO h)
theorem pe {ts:List Expr}{kk:Nat}{pt:Pos}{e:Expr}{l:Nat}{env:Env}:swapsWithSole [.Tuple ts kk pt] e l env=pure false:=by show swapsWith e (some (.Tuple ts kk pt)) l env=pure false;exact jV λ_ _ z=>by cases z
theorem kE (C:eO X W Γ E cl k):∀{ts:List Expr} {is:List Nat},RF.slots Γ ts=some is->zA X ts (ic is)
 | [],is,h=>by cases h;exact zS
 | e::r,is,h=>by obtain⟨x,p,i,js,rfl,h1,h2,_,rfl⟩:=c0 h;obtain⟨g1,g2⟩:=fF C h1;exact vN (pv C.nd g1 g2 (.inl (C.fn x))) (kE C h2) rfl
theorem KH {ts:List Expr}{kk:Nat}{pt:Pos}{e:Expr}{env:Env}(h:∀es k2 p2,e ≠ .Tuple es k2 p2):swappedStores [.Tuple ts kk pt] e env=pure none:=by cases e<;>first | rfl | exact absurd rfl (h _ _ _)
theorem KU (C:eO X W Γ E cl k){ts:List Expr}{is:List Nat}{kk:Nat}{pt:Pos}(hi:RF.slots Γ ts=some is)(he:PE X e (tE X.K W E ca))(hw:swappedStores [.Tuple ts kk pt] e X.env=pure none):PS X (.Assign [.Tuple ts kk pt] e pos) (tF X.K W E (RF.tupS is ca)):=by
 obtain⟨a1,a2,a3⟩:=gj (env:=X.env) hi;refine(xp he (rT C.calm (kE C hi) rfl a2) pe hw rfl).imp λD σ H ⟨M,ρ,S,s,g⟩=>i9 s g λM1 H1 d v S1 s1 u1 r1 g1=>?_;split at g1
 .rename_i ds;obtain⟨p,vs,rfl,hp,hv⟩:=cA r1;split at g1
  .rename_i ρ' hl;refine⟨p,vs,rfl,cy.of hp,?_,se hl hv s1 λσ' s'=>br.nx g1 s'⟩;rw[<-hv.length,mh hl,a3,a1]
  .exact g1.elim
 .exact g1.elim
theorem K8 (C:eO X W Γ E cl k):(X.env.blockKind != .function)=false:=by unfold Env.blockKind;rw[C.kind];rfl
theorem plain_any {es:List Expr}(h:es.all RF.aL=true):(es.any fun | .Starred ..=>true | _=>false)=false:=by rw[List.any_eq_false];intro e he;have:=List.all_eq_true.mp h e he;cases e<;>first | (simp[RF.aL] at this;done) | simp
theorem yW (C:eO X W Γ E cl k){ts es:List Expr}{is:List Nat}{f:Expr->RF.C D}{kk k2:Nat}{pt p2:Pos}(hi:RF.slots Γ ts=some is)(he:∀e∈es,PE X e (tE X.K W E (f e)))(hp:es.all RF.aL=true)(hz:es.length<=3)(hw:swappedStores [.Tuple ts kk pt] (.Tuple es k2 p2) X.env=pure none):
 PS X (.Assign [.Tuple ts kk pt] (.Tuple es k2 p2) pos) (tF X.K W E (RF.ke is (es.map f))):=by
 obtain⟨a1,a2,a3⟩:=gj (env:=X.env) hi;refine(xp (DF (e8 he hp)) (rT C.calm (kE C hi) rfl a2) pe hw rfl).imp λD σ H ⟨M,ρ,S,s,g⟩=>?_;have g:br X.K W E M H (RF.dY (RF.bX (es.map f) ρ S) λds S1=>match RF.k9 is ds ρ with | some ρ'=>.nx ρ' S1 | none=>.bad) D:=g;refine⟨M,ρ,S,s,?_⟩;cases ev:RF.bX (es.map f) ρ S with
 | bad=>rw[ev] at g;exact g
 | ok ds S1=>
  rw[ev,RF.BR] at g;intro M1 H1 vs c1 u1 r1;have hl:=qO ev;rw[List.length_map] at hl;refine⟨by rw[<-r1.length,hl];exact Nat.le_trans hz (by decide),λp hp=>?_⟩;split at g
  .rename_i ρ' yb;have s2:Sm X.K W M1 S1 (upd H1 p (.tup vs)) ρ σ:=(s.to c1 u1).to (c1.fresh hp) (bP hp);refine⟨p,vs,rfl,cy.of aA,?_,se yb (r1.up (bP hp)) s2 λσ' s'=>g _ _ _ s' (u1.trans (bP hp))⟩;rw[<-r1.length,mh yb,a3,a1]
  .exact g.elim
theorem Ji (C:eO X W Γ E cl k){x y:Str}{i j:Nat}{px py pt p2:Pos}{kk k2:Nat}{e1 e2:Expr}{f:Expr->RF.C D}(hi:RF.slot Γ x=some i)(hj:RF.slot Γ y=some j)(DQ:i≠j)(hx:Γ.sc.names.lookup x=some .local)(hy:Γ.sc.names.lookup y=some .local)
 (he:∀e∈[e1,e2],PE X e (tE X.K W E (f e))) (hp:[e1,e2].all RF.aL=true) (hw:swappedStores [.Tuple [.Name x px,.Name y py] kk pt] (.Tuple [e1,e2] k2 p2) X.env=pure (some [x,y])):
 PS X (.Assign [.Tuple [.Name x px,.Name y py] kk pt] (.Tuple [e1,e2] k2 p2) pos) (tF X.K W E (RF.ke [i,j] ([e1,e2].map f))):=by
 refine(LQ C.calm C.nd (fF C hi).1 (fF C hj).1 DQ (by rw[C.sc];exact hx) (by rw[C.sc];exact hy) (e8 he hp) hw pe).imp λD σ H ⟨M,ρ,S,s,g⟩=>?_;refine i9 s g λM1 H1 ds vs S1 s1 u1 r1 g1=>?_
 match ds,r1,g1 with
 | [d1,d2],.cons r1 (.cons r2 .nil),g1=>exact⟨_,_,rfl,br.nx g1 ((s1.set r1).set r2)⟩
 | [],_,g1=>exact g1.elim
 | [_],_,g1=>exact g1.elim
 | _::_::_::_,_,g1=>exact g1.elim
theorem IK (C:eO X W Γ E cl k){x y z:Str}{i j l:Nat}{px py pz pt p2:Pos}{kk k2:Nat}{e1 e2 e3:Expr}{f:Expr->RF.C D}(hi:RF.slot Γ x=some i)(hj:RF.slot Γ y=some j)(hl:RF.slot Γ z=some l)(DQ:i≠j)(hil:i≠l)(hjl:j≠l)
 (hx:Γ.sc.names.lookup x=some .local) (hy:Γ.sc.names.lookup y=some .local) (hz:Γ.sc.names.lookup z=some .local)
 (he:∀e∈[e1,e2,e3],PE X e (tE X.K W E (f e))) (hp:[e1,e2,e3].all RF.aL=true) (hw:swappedStores [.Tuple [.Name x px,.Name y py,.Name z pz] kk pt] (.Tuple [e1,e2,e3] k2 p2) X.env=pure (some [x,y,z])):
 PS X (.Assign [.Tuple [.Name x px,.Name y py,.Name z pz] kk pt] (.Tuple [e1,e2,e3] k2 p2) pos) (tF X.K W E (RF.ke [i,j,l] ([e1,e2,e3].map f))):=by
 refine(Io C.calm C.nd (fF C hi).1 (fF C hj).1 (fF C hl).1 (by rw[C.sc];exact hx) (by rw[C.sc];exact hy) (by rw[C.sc];exact hz) (e8 he hp) hw pe).imp λD σ H ⟨M,ρ,S,s,g⟩=>?_;refine i9 s g λM1 H1 ds vs S1 s1 u1 r1 g1=>?_
 match ds,r1,g1 with
 | [d1,d2,d3],.cons (v:=v1) r1 (.cons (v:=v2) r2 (.cons (v:=v3) r3 .nil)),g1=>
  refine⟨_,_,_,rfl,?_⟩;have e:((σ.set l (some v3)).set j (some v2)).set i (some v1)=((σ.set i (some v1)).set j (some v2)).set l (some v3):=by rw[List.set_comm _ _ (Ne.symm hjl),List.set_comm _ _ (Ne.symm hil),List.set_comm _ _ (Ne.symm DQ)]
  rw[e];exact br.nx g1 (((s1.set r1).set r2).set r3)
 | [],_,g1=>exact g1.elim
 | [_],_,g1=>exact g1.elim
 | [_,_],_,g1=>exact g1.elim
 | _::_::_::_::_,_,g1=>exact g1.elim
end
end L2
namespace L2
open PySem PySem.Spec PyProof.Rows
open RF (D O ae Tab)
def eK (env:Env)(ts:List Expr):List Str:=ts.filterMap fun
 | .Name id pos=>if env.kindOf id==some .local&&pos.line==((ts.head?.map (·.pos.line)).getD 0) then some id else none
 | _=>none
theorem Gg {ts es:List Expr}{kk k2:Nat}{pt p2:Pos}{env:Env}(h2:(ts.length==2||ts.length==3)=true)(hl:es.length=ts.length)(hb:(env.blockKind != .function)=false)(hp:es.all RF.aL=true)(hd:(eK env ts).eraseDups.length=(eK env ts).length):
 ((eK env ts).length≠ts.length->swappedStores [.Tuple ts kk pt] (.Tuple es k2 p2) env=pure none) /\
 (es.all (foldedForSure 8)=true->swappedStores [.Tuple ts kk pt] (.Tuple es k2 p2) env=pure none) /\
 ((eK env ts).length=ts.length->es.all (foldedForSure 8)=false->es.all (constantsAlone 8)=false->swappedStores [.Tuple ts kk pt] (.Tuple es k2 p2) env=pure (some (eK env ts))):=by
 have c1:((!(ts.length==2||ts.length==3))||es.length != ts.length||env.blockKind != .function)=false:=by rw[h2,hl,hb];simp
 have c2:=plain_any hp;have e:swappedStores [.Tuple ts kk pt] (.Tuple es k2 p2) env=(if ((eK env ts).length != ts.length||(eK env ts).eraseDups.length != (eK env ts).length)=true then pure none else
  if es.all (foldedForSure 8)=true then pure none else do
   if es.all (constantsAlone 8)=true then unsupported "assign.tuple-of-constant-expressions:order-of-the-stores"
   return some (eK env ts)):=by
  unfold swappedStores;dsimp only;simp only[c1,Bool.false_eq_true,if_false];rw[if_neg (by intro z;rw[List.any_eq_true] at z;obtain⟨e,he,z⟩:=z;have:=List.all_eq_true.mp hp e he;cases e<;>first | (simp at z;done) | (simp[RF.aL] at this))]
  rfl
 rw[e];refine⟨λz=>?_,λz=>?_,λz1 z2 z3=>?_⟩
 .rw[if_pos (by simp[z])]
 .rw[z];simp
 .rw[if_neg (by simp[z1,hd]),if_neg (by simp[z2]),if_neg (by simp[z3])]
  first | rfl | skip
section
variable {X:Cx}{W:bw}{Γ:RF.Gm}{E:XK}{cl:RF.Calls}{k:Nat}{kt:RF.d0}{a b c e:Expr}{ca cb cc:RF.C D}{pos:Pos}
def oa (env:Env)(l:Nat):Expr->Bool
 | .Name x p=>env.kindOf x==some .local&&p.line==l
 | _=>false
def nameOf:Expr->Str
 | .Name x _=>x
 | _=>Str.empty
def e9 (env:Env)(l:Nat)(ts:List Expr):List Str:=ts.filterMap fun
 | .Name id pos=>if env.kindOf id==some .local&&pos.line==l then some id else none
 | _=>none
theorem ua:∀{ts:List Expr} {is:List Nat},RF.slots Γ ts=some is->∀x p,.Name x p∈ts->∃i∈is,RF.slot Γ x=some i
 | [],is,h,x,p,hm=>by cases hm
 | e::r,is,h,x,p,hm=>by
  obtain⟨y,q,i,js,rfl,h1,h2,_,rfl⟩:=c0 h;rcases List.mem_cons.mp hm with z | z
  .cases z;exact⟨i,List.mem_cons_self,h1⟩
  .obtain⟨j,hj,e⟩:=ua h2 x p z;exact⟨j,List.mem_cons_of_mem _ hj,e⟩
theorem yF {env:Env}{l:Nat}{ts:List Expr}{x:Str}(h:x∈e9 env l ts):∃p,.Name x p∈ts:=by
 unfold e9 at h;obtain⟨e,he,z⟩:=List.mem_filterMap.mp h;split at z
 .split at z
  .cases z;exact⟨_,he⟩
  .cases z
 .cases z
theorem nV {env:Env}{l:Nat}{x:Str}{p:Pos}{r:List Expr}:e9 env l (.Name x p::r)=if oa env l (.Name x p)=true then x::e9 env l r else e9 env l r:=by
 unfold e9 oa;rw[List.filterMap_cons];dsimp only;split<;>rename_i h<;>split at h<;>cases h
 .rename_i h2;rw[if_neg h2]
 .rename_i h2;rw[if_pos h2]
theorem rg {env:Env}{l:Nat}:∀{ts:List Expr} {is:List Nat},RF.slots Γ ts=some is->(e9 env l ts).Nodup
 | [],is,h=>List.nodup_nil
 | e::r,is,h=>by
  obtain⟨y,q,i,js,rfl,h1,h2,lV,rfl⟩:=c0 h;have ih:=rg (env:=env) (l:=l) h2;rw[nV];split
  .refine List.nodup_cons.mpr ⟨λz=>?_,ih⟩;obtain⟨p,hp⟩:=yF z;obtain⟨j,hj,e⟩:=ua h2 y p hp;rw[h1] at e;cases e;exact lV hj
  .exact ih
theorem pL {env:Env}{l:Nat}:∀{ts:List Expr} {is:List Nat},RF.slots Γ ts=some is->(e9 env l ts).length<=ts.length/\((e9 env l ts).length=ts.length->ts.all (oa env l)=true)/\(ts.all (oa env l)=true->e9 env l ts=ts.map nameOf)
 | [],is,h=>⟨Nat.le_refl _,λ_=>rfl,λ_=>rfl⟩
 | e::r,is,h=>by
  obtain⟨y,q,i,js,rfl,h1,h2,lV,rfl⟩:=c0 h;obtain⟨a1,a2,a3⟩:=pL (env:=env) (l:=l) h2;rw[nV];split
  .rename_i hb;refine⟨by simp;exact a1,λz=>?_,λz=>?_⟩
   .rw[List.all_cons,hb,a2 (by simpa using z)];rfl
   .rw[List.all_cons,Bool.and_eq_true] at z;rw[a3 z.2];rfl
  .rename_i hb;refine⟨by simp only[List.length_cons];omega,λz=>?_,λz=>?_⟩
   .simp only[List.length_cons] at z;omega
   .rw[List.all_cons,Bool.and_eq_true] at z;exact absurd z.1 hb
theorem xj {l:List Str}(h:l.Nodup):l.eraseDups=l:=by
 induction l with
 | nil=>rfl
 | cons x xs ih=>
  obtain⟨h1,h2⟩:=List.nodup_cons.mp h;rw[List.eraseDups_cons];have:(xs.filter λb=>!b==x)=xs:=by rw[List.filter_eq_self];intro y hy;have:y≠x:=λz=>h1 (z ▸ hy);simpa using this
  rw[this,ih h2]
theorem Ef (C:eO X W Γ E cl k){ts:List Expr}{l:Nat}:ts.all (RF.Hg Γ l)=ts.all (oa X.env l):=by
 congr 1
 funext t
 cases t<;>first | rfl | skip
 show (Γ.sc.names.lookup _==_&&_)=(X.env.scope.names.lookup _==_&&_);rw[C.sc]
theorem LM (C:eO X W Γ E cl k){ts es:List Expr}{is:List Nat}{f:Expr->RF.C D}{kk k2:Nat}{pt p2:Pos}(hi:RF.slots Γ ts=some is)(he:∀e∈es,PE X e (tE X.K W E (f e)))(hp:es.all RF.aL=true)(h2:es.length=2\/es.length=3)(hl:es.length=ts.length)(hs:(RF.AH Γ ts es).isSome=true):
 PS X (.Assign [.Tuple ts kk pt] (.Tuple es k2 p2) pos) (tF X.K W E (RF.ke is (es.map f))):=by
 have h3:(ts.length==2||ts.length==3)=true:=by rw[<-hl];rcases h2 with z | z<;>simp[z]
 have nd:=rg (env:=X.env) (l:=((ts.head?.map (·.pos.line)).getD 0)) hi;obtain⟨b1,b2,b3⟩:=pL (env:=X.env) (l:=((ts.head?.map (·.pos.line)).getD 0)) hi;obtain⟨g1,g2,g3⟩:=Gg (kk:=kk) (k2:=k2) (pt:=pt) (p2:=p2) h3 hl (K8 C) hp (by show (e9 X.env _ ts).eraseDups.length=_;rw[xj nd];rfl);have hz:es.length<=3:=by rcases h2 with z | z<;>omega
 unfold RF.AH at hs;rw[Ef C] at hs;split at hs
 .rename_i hn;exact yW C hi he hp hz (g1 λz=>by rw[b2 z] at hn;cases hn)
 .rename_i hn;have gb:ts.all (oa X.env ((ts.head?.map (·.pos.line)).getD 0))=true:=by simpa using hn
  split at hs
  .rename_i hf;exact yW C hi he hp hz (g2 hf)
  .rename_i hf;split at hs
   .cases hs
   .rename_i hcn;have D0:eK X.env ts=ts.map nameOf:=b3 gb;have hw:=g3 (by rw[D0];simp) (by simpa using hf) (by simpa using hcn);rw[D0] at hw;have loc:∀(l:Nat) (x:Str) (p:Pos),oa X.env l (.Name x p)=true->Γ.sc.names.lookup x=some .local:=λl x p z=>by unfold oa at z;rw[Bool.and_eq_true] at z;have:=eq_of_beq z.1;have this:X.env.scope.names.lookup x=some .local:=this;rw[C.sc] at this;exact this
    match ts,es,hl,h2,hi,gb,hw,he,hp with
    | [t1,t2],[e1,e2],_,_,hi,gb,hw,he,hp=>obtain⟨x,p,i,js,rfl,k1,k2',k3,rfl⟩:=c0 hi;obtain⟨y,q,j,ks,rfl,l1,l2,l3,rfl⟩:=c0 k2';cases l2;simp only[List.all_cons,Bool.and_eq_true] at gb;exact Ji C k1 l1 (λz=>k3 (by simp[z])) (loc _ _ _ gb.1) (loc _ _ _ gb.2.1) he hp hw
    | [t1,t2,t3],[e1,e2,e3],_,_,hi,gb,hw,he,hp=>obtain⟨x,p,i,js,rfl,k1,k2',k3,rfl⟩:=c0 hi;obtain⟨y,q,j,ks,rfl,l1,l2,l3,rfl⟩:=c0 k2';obtain⟨z,r,l,ms,rfl,m1,m2,m3,rfl⟩:=c0 l2;cases m2;simp only[List.all_cons,Bool.and_eq_true] at gb;exact IK C k1 l1 m1 (λz=>k3 (by simp[z])) (λz=>k3 (by simp[z])) (λz=>l3 (by simp[z])) (loc _ _ _ gb.1) (loc _ _ _ gb.2.1) (loc _ _ _ gb.2.2.1) he hp hw
    | [],[],hl,h2,_,_,_,_,_=>rcases h2 with z | z<;>simp at z
    | [_],[_],hl,h2,_,_,_,_,_=>rcases h2 with z | z<;>simp at z
    | _::_::_::_::_,_::_::_::_::_,hl,h2,_,_,_,_,_=>rcases h2 with z | z<;>simp at z
end
end L2
namespace L2
open PySem PySem.Spec PyProof.Rows
open RF (D O ae Tab)
section
variable {X:Cx}{W:bw}{Γ:RF.Gm}{E:XK}{cl:RF.Calls}{k:Nat}{kt:RF.d0}{a b c e:Expr}{ca cb cc:RF.C D}{pos:Pos}
theorem J0 {K:Fg}{M:List Addr}{H:Hp}{W:bw}{cc:Nat}(nd:W.T.cJ.Nodup){fs:List (Nat×D)}{gs:List (Str×V)}(h:Paired (λ(p:Nat×D) (q:Str×V)=>(W.T.cJ[p.1]?=some q.1/\W.T.plain cc p.1=true)/\au M H p.2 q.2) fs gs){f:Nat}{x:Str}(hx:W.T.cJ[f]?=some x)(hp:W.T.plain cc f=true){d:D}{v:V}(r:au M H d v):
 Paired (λ(p:Nat×D) (q:Str×V)=>(W.T.cJ[p.1]?=some q.1/\W.T.plain cc p.1=true)/\au M H p.2 q.2) (RF.d6 f d fs) (fu x v gs):=by
 induction h with
 | nil=>exact .cons ⟨⟨hx,hp⟩,r⟩ .nil
 | @cons p q fs gs r1 t ih=>
  obtain⟨pf,pd⟩:=p;obtain⟨qf,qv⟩:=q;unfold RF.d6 fu
  by_cases e:pf=f
  .subst e;have e2:qf=x:=Option.some.inj (r1.1.1.symm.trans hx);subst e2;rw[if_pos rfl,if_pos rfl];exact .cons ⟨r1.1,r⟩ t
  .have e2:¬qf=x:=λz=>e (by subst z;exact(List.getElem?_inj (List.getElem?_eq_some_iff.mp r1.1.1).1 nd).mp (r1.1.1.trans hx.symm));rw[if_neg e,if_neg e2];exact .cons r1 ih
theorem MC (C:eO X W Γ E cl k){f:Str}{i:Nat}{pf:Pos}(hi:RF.bY W.T.cJ f=some i)(ho:PE X a (tE X.K W E ca))(he:PE X e (tE X.K W E cb)):PS X (.Assign [.Attribute a f pf] e pos) (tF X.K W E (RF.eW W.T.plain ca i cb)):=by
 refine(Mf ho he (jV λ_ _ z=>by cases z)).imp λD σ H ⟨M,ρ,S,s,g⟩=>?_;refine i9 s g λM1 H1 d v S1 s1 u1 r1 g1=>i9 s1 g1 λM2 H2 x u S2 s2 u2 r2 g2=>?_;unfold RF.i7 at g2;split at g2
 .rename_i n;split at g2
  .rename_i cc fs hS;unfold RF.aE at g2;split at g2
   .rename_i hz;rw[Bool.and_eq_true,decide_eq_true_eq] at hz;obtain⟨p,rfl,ea⟩:=bC r2;obtain⟨dx,gs,h1,hc,h2⟩:=s2.con.at_ n _ p hS ea;have nt:c9 (H2 p):=d7 h1 rfl;refine⟨p,W.c cc,dx,gs,rfl,h1,C.top.x9 cc hc,C.top.plain cc i f hc hz.2 (cG hi),by rw[<-Paired.length h2];omega,?_⟩;have h3:=J0 (K:=X.K) s2.con.sM h2 (cG hi) hz.2 (r1.up u2);have c3:Cn X.K W M2 (S2.set n (.obj cc (RF.d6 i d fs))) (upd H2 p (.ins (W.c cc) dx (fu f v gs))):=s2.con.put hS ea rfl rfl nt ⟨dx,_,aA,hc,Paired.nN h3 λ_ _ z=>⟨z.1,z.2.up (aW nt)⟩⟩;exact br.nx (br.up g2 (aW nt)) (s2.to c3 (aW nt))
   .exact g2.elim
  .exact g2.elim
 .exact g2.elim
def Od:tf:=λo i v H Q=>∃a H' H4,o = .ref a/\(H'=H\/kK H a H')/\nB H' a i v H4/\Q H4
theorem set_dict (hu:X.A.units+1<cLine):nu X Od:=by
 intro pins s σ H o i v ov iv u Q I ro ri rv h;obtain⟨a,H',H4,rfl,hr,g,q⟩:=h;cases ro;have I':Inv X pins σ H' s:=by
  rcases hr with rfl | hr
  .exact I
  .exact I.ret hr
 exact BZ hu I' g ri rv λs4 I4=>⟨H4,I4,q⟩
def Og (hs:bj->Int):tf:=λo i v H Q=>∃a b k xs,o = .ref a/\i = .ref b/\fv H k b/\(((H a=some (.dK [])\/H a=some (.dT []))/\xs=[])\/∃af,H a=some (PD hs a xs)/\KP H af xs/\xs.length<sizeLine)/\∀r,RelV v r->Q (upd H a (PD hs a (storedH xs k b r)))
theorem Gs (hu:X.A.units+2<cLine):nu X (Og (dw X.prog X.w)):=by
 intro pins s σ H o i v ov iv u Q I ro ri rv h;obtain⟨a,b,k,xs,rfl,rfl,hb,hd,q⟩:=h;cases ro;cases ri;rcases hd with⟨he,rfl⟩|⟨af,he,rel,hz⟩
 .obtain⟨h0,dd⟩:=rM I he;refine CH hu I ?_ ?_ h0 dd (by decide) hb rv λs4 I4=>⟨_,I4,q u rv⟩
  .rcases he with he | he<;>(rw[he];exact True.intro)
  .rcases he with he | he<;>(rw[he];exact λ_ z=>by cases z)
 .obtain⟨h0,_,dd⟩:=Ho I.aq he rel;refine CH hu I (by rw[he];exact True.intro) (by rw[he];exact λ_ z=>by cases z) h0 dd hz hb rv λs4 I4=>⟨_,I4,q u rv⟩
theorem nu.or {t t':tf}(h:nu X t)(h':nu X t'):nu X (λo i v H Q=>t o i v H Q\/t' o i v H Q):=λpins s σ H o i v ov iv u Q I ro ri rv q=>q.elim (h pins s σ H o i v ov iv u Q I ro ri rv) (h' pins s σ H o i v ov iv u Q I ro ri rv)
theorem HM {o i:Expr}{p:Pos}{env:Env}(h:RF.eY i=true)(v:Value):assign (.Subscript o i p) env v=(do
 let ov <-holding [v] (eval o env)
 let iv <-holding [v,ov] (eval i env)
 standAt p
 holding [v,ov,iv] (setItem ov iv v)
 release [v,ov,iv] []):=by
 cases i<;>first | rfl | (simp[RF.eY] at h)
theorem Lb (C:eO X W Γ E cl k){ps:Pos}(ho:PE X a (tE X.K W E ca))(hi:PE X b (tE X.K W E cb))(he:PE X e (tE X.K W E cc))(hs:RF.eY b=true):PS X (.Assign [.Subscript a b ps] e pos) (tF X.K W E (RF.iw ca cb cc)):=by
 refine(xp he (Kw ho hi (set_list.or ((set_dict C.CY).or (Gs C.nS))) (HM hs)) (by show swapsWith e (some (.Subscript a b ps)) pos.line X.env=pure false;exact jV λ_ _ z=>by cases z) (by cases e<;>rfl) rfl).imp λD σ H ⟨M,ρ,S,s,g⟩=>?_
 refine i9 s g λM1 H1 d v S1 s1 u1 r1 g1=>i9 s1 g1 λM2 H2 x u S2 s2 u2 r2 g2=>i9 s2 g2 λM3 H3 i w S3 s3 u3 r3 g3=>?_;have rx:=r2.up u3;have rd:=(r1.up u2).up u3;unfold RF.dv at g3;split at g3
 .rename_i n;obtain⟨p,rfl,ea⟩:=bC rx;split at g3
  .rename_i xs kk hS;split at g3
   .rename_i j hj;cases r3;obtain⟨vs,h1,h2⟩:=s3.con.lst hS ea;have nt:c9 (H3 p):=d7 h1 rfl;refine .inl ⟨p,vs,kk,j,rfl,rfl,h1,by rw[<-h2.length];exact hj,?_⟩;exact br.nx (br.up g3 (aW nt)) (s3.to (s3.con.put hS ea rfl rfl nt ⟨_,aA,(h2.set rd j).up (aW nt)⟩) (aW nt))
   .exact g3.elim
  .rename_i af hS;split at g3
   .rename_i hk;unfold RF.aE at g3;split at g3
    .rename_i hz;have hz:=List.isEmpty_iff.mp hz;subst hz;obtain⟨q,rfl⟩:=jE hk;obtain⟨bq,rfl,kq⟩:=pA r3;have he:H3 p=some (.dK [])\/H3 p=some (.dT []):=by
      rcases s3.con.at_ n _ p hS ea with⟨ks,h1,h2⟩|⟨ts,h1,h2⟩
      .cases h2;exact .inl h1
      .cases h2;exact .inr h1
     have nt:c9 (H3 p):=by rcases he with he | he<;>exact d7 he rfl
     have tp:∀c ys,H3 c=some (.tup ys)->∀o,upd H3 p o c=some (.tup ys):=λc ys e o=>by rw[ax (λz=>by subst z;rcases he with he | he<;>(rw[he] at e;cases e))];exact e
     refine .inr (.inr ⟨p,bq,q,[],rfl,rfl,kq,.inl ⟨he,rfl⟩,λr rr=>?_⟩);rw[<-C.tobT.top.ph];refine br.nx (br.up g3 (aW nt)) (s3.to (s3.con.put hS ea rfl rfl nt ⟨[(q,bq,r)],[(q,v)],aA,?_,?_⟩) (aW nt))
     .exact .cons ⟨rfl,kq.keeps λc ys e=>tp c ys e _,rr⟩ .nil
     .exact .cons ⟨rfl,rd.up (aW nt)⟩ .nil
    .exact g3.elim
   unfold RF.aE at g3;split at g3
   .rename_i hz;rw[Bool.and_eq_true,decide_eq_true_eq] at hz;obtain⟨H',hr,c',u',gd⟩:=qF s3.con hS ea hz.1 r3;have rd':=rd.up u';rcases gd with⟨ks,q,q1,q2,rfl,rfl⟩|⟨ts,q,bq,q1,q2,rfl,rfl,q3⟩
    .have nt:c9 (H' p):=d7 q1 rfl;refine .inr (.inl ⟨p,H',_,rfl,hr,nB.k q1 (by rw[<-Paired.length q2];exact hz.2),?_⟩);exact br.nx (br.up g3 (u'.trans (aW nt))) (s3.to (c'.put hS ea rfl rfl nt (.inl ⟨_,aA,Paired.up (qq (λ_ _=>iV) q2 rd') (aW nt)⟩)) (u'.trans (aW nt)))
    .have nt:c9 (H' p):=d7 q1 rfl;refine .inr (.inl ⟨p,H',_,rfl,hr,nB.t q1 q3 (by rw[<-Paired.length q2];exact hz.2),?_⟩);exact br.nx (br.up g3 (u'.trans (aW nt))) (s3.to (c'.put hS ea rfl rfl nt (.inr ⟨_,aA,Paired.up (qq (λ_ _=>dF) q2 rd') (aW nt)⟩)) (u'.trans (aW nt)))
   .exact g3.elim
  .rename_i af hS;unfold RF.aE at g3;split at g3
   .rename_i hz;rw[Bool.and_eq_true,decide_eq_true_eq] at hz;obtain⟨q,rfl⟩:=jE hz.1;obtain⟨bq,rfl,kq⟩:=pA r3;obtain⟨xs,ps,h1,h2,h3⟩:=s3.con.at_ n _ p hS ea;have nt:c9 (H3 p):=d7 h1 rfl;have tp:∀c ys,H3 c=some (.tup ys)->∀o,upd H3 p o c=some (.tup ys):=λc ys e o=>by rw[ax (λz=>by subst z;rw[h1] at e;cases e)];exact e
    have hl:xs.length<sizeLine:=by rw[<-Paired.length h2,<-Paired.length h3];exact hz.2
    rw[C.tobT.top.ph] at h1;refine .inr (.inr ⟨p,bq,q,xs,rfl,rfl,kq,.inr ⟨ps,h1,h2,hl⟩,λr rr=>?_⟩);rw[<-C.tobT.top.ph];refine br.nx (br.up g3 (aW nt)) (s3.to (s3.con.put hS ea rfl rfl nt ⟨_,_,aA,(h2.put q kq rr).keeps λc ys e=>tp c ys e _,Paired.up (qq (λ_ _=>sx) h3 rd) (aW nt)⟩) (aW nt))
   .exact g3.elim
  .exact g3.elim
 .exact g3.elim
def MP (td ty:TE):TS:=λD σ H=>td σ H λx H1=>ty σ H1 λy H2=>(∃a b af k v,x = .ref a/\y = .ref b/\H2 a=some (.dT af)/\H2 b=some (.tup (k.map kV))/\cV af k=some v/\D.nx σ (upd H2 a (.dT (dr af k)))) \/
 ∃a af k,x = .ref a/\H2 a=some (.dK af)/\y=kV k/\(cV af k).isSome=true/\D.nx σ (upd H2 a (.dK (dr af k)))
theorem EM {td ty:TE}{o i:Expr}{Bz:Pos}(hu:X.A.units+2<cLine)(ho:PE X o td)(hi:PE X i ty):PS X (.Delete [.Subscript o i Bz] pos) (MP td ty):=by
 intro pins s σ H D I h;refine wpAny_Delete (wpAny_deleteEach_cons (wpAny_delete_Subscript (aQ (ho pins s σ H _ I h) λu s1 ⟨x,H1,I1,rx,q1⟩=>aQ (hi pins s1 σ H1 _ I1 q1) λiv s2 ⟨y,H2,I2,ry,q⟩=>?_)));rcases q with⟨a,b,af,k,v,rfl,rfl,e,eb,l,q2⟩|⟨a,af,k,rfl,e,rfl,l,q2⟩
 .obtain rfl:u=Value.ref a:=rx;obtain rfl:iv=Value.ref b:=ry;exact Kq hu I2 e eb l λs' I'=>wpAny_deleteEach_nil ⟨σ,_,I',q2⟩
 .obtain rfl:u=Value.ref a:=rx;exact Dy I2 e ry l λs' I'=>wpAny_deleteEach_nil ⟨σ,_,I',q2⟩
theorem Lf (C:eO X W Γ E cl k){ps:Pos}(ho:PE X a (tE X.K W E ca))(hi:PE X b (tE X.K W E cb)):PS X (.Delete [.Subscript a b ps] pos) (tF X.K W E (RF.oe ca cb)):=by
 refine(EM C.nS ho hi).imp λD σ H ⟨M,ρ,S,s,g⟩=>?_;refine i9 s g λM1 H1 x u S1 s1 u1 r1 g1=>i9 s1 g1 λM2 H2 y w S2 s2 u2 r2 g2=>?_;have rx:=r1.up u2;unfold RF.jT at g2;split at g2
 .rename_i n;obtain⟨p,rfl,ea⟩:=bC rx;split at g2
  .rename_i af hS;unfold RF.aE at g2;split at g2
   .rename_i hz;rw[Bool.and_eq_true] at hz;obtain⟨hf,hv⟩:=hz;unfold RF.cj at hf;simp only[Bool.or_eq_true,Bool.and_eq_true] at hf;rcases s2.con.at_ n _ p hS ea with⟨ks,h1,h2⟩|⟨ts,h1,h2⟩
    .rcases hf with⟨f1,_⟩|⟨f1,_⟩
     .obtain⟨q,rfl⟩:=jB f1;have nt:c9 (H2 p):=d7 h1 rfl;rcases fW (λ_ _=>iV) h2 q with⟨z1,_⟩|⟨d,v,z1,z2,z3⟩
      .rw[z1] at hv;cases hv
      .refine .inr ⟨p,ks,q,rfl,h1,rX r2,by rw[z2];rfl,?_⟩;exact br.nx (br.up g2 (aW nt)) (s2.to (s2.con.put hS ea rfl rfl nt (.inl ⟨_,aA,Paired.up (xN (λ_ _=>iV) h2 q) (aW nt)⟩)) (aW nt))
     .rw[nh (g6 h2) (kS f1)] at hv;cases hv
    .rcases hf with⟨f1,_⟩|⟨f1,_⟩
     .rw[nh (wK h2) (gE f1)] at hv;cases hv
     .obtain⟨q,rfl⟩:=gX f1;have nt:c9 (H2 p):=d7 h1 rfl;obtain⟨bq,vs,rfl,kq,hs⟩:=cA r2;rw[lJ hs] at kq;rcases fW (λ_ _=>dF) h2 q with⟨z1,_⟩|⟨d,v,z1,z2,z3⟩
      .rw[z1] at hv;cases hv
      .refine .inl ⟨p,bq,ts,q,v,rfl,rfl,h1,kq,z2,?_⟩;exact br.nx (br.up g2 (aW nt)) (s2.to (s2.con.put hS ea rfl rfl nt (.inr ⟨_,aA,Paired.up (xN (λ_ _=>dF) h2 q) (aW nt)⟩)) (aW nt))
   .exact g2.elim
  .exact g2.elim
 .exact g2.elim
theorem yR {K:Fg}{M:List Addr}{S:ae}{H:Hp}{ρ:RF.Env}{chk:ae->Bool}{is:List Nat}{one:Bool}{b:RF.CS}{l:List D}{D:Ends}(g:br K W E M H (RF.ee chk is one b l ρ S) D):chk S=true:=by
 cases h:chk S with
 | true=>rfl
 | false=>
  exfalso;cases l with
  | nil=>unfold RF.ee at g;rw[h] at g;exact g
  | cons x xs=>unfold RF.ee at g;rw[h] at g;exact g
theorem oJ {J:It}{items:List D}{chk:ae->Bool}{ok:List Addr->ae->Hp->Prop}(wk:Wk X.K W J items chk ok){is:List Nat}{one:Bool}{b:RF.CS}{gt:TG}(hg:mC X W is one gt){D:Ends}{M:List Addr}{S:ae}{H:Hp}{ρ:RF.Env}{σ:St}(sm:Sm X.K W M S H ρ σ)(aq:ok M S H)
 (g:br X.K W E M H (RF.ee chk is one b items ρ S) D):∃Wv:Nat->Nat->St->Hp->Prop,(∃m,Wv 0 m σ H)/\∀i m σ H,Wv i m σ H ->
   (J.stop i H/\D.nx σ H)\/(J.go i H/\∃N:St->Hp->Prop,(∀σ' H',N σ' H'->∃m',m'<m/\Wv (i+1) m' σ' H')/\∀x H',J.xW i H x H'->gt x σ H' λσ2 H2=>tF X.K W E b { D with nx:=N,ct:=N,bk:=D.nx } σ2 H2):=by
 refine⟨λi m σ H=>m=items.length-i/\i<=items.length/\∃M S ρ,Sm X.K W M S H ρ σ/\ok M S H/\br X.K W E M H (RF.ee chk is one b (items.drop i) ρ S) D,⟨items.length,by simp,Nat.zero_le _,M,S,ρ,sm,aq,by rw[List.drop_zero];exact g⟩,?_⟩;rintro i m σ H ⟨rfl,hi,M,S,ρ,sm,aq,g⟩;have hc:=yR g;rcases Nat.lt_or_ge i items.length with eR | m7
 .obtain⟨go,yl⟩:=wk.go i M S H sm.con aq eR;refine .inr ⟨go,λσ' H'=>items.length-(i+1)=items.length-(i+1)/\i+1<=items.length/\∃M S ρ,Sm X.K W M S H' ρ σ'/\ok M S H'/\br X.K W E M H' (RF.ee chk is one b (items.drop (i+1)) ρ S) D,λσ' H' z=>⟨items.length-(i+1),by omega,z⟩,λx H' y=>?_⟩;obtain⟨rfl,d,hd,rd⟩:=yl x H' y;have ed:items.drop i=d::items.drop (i+1):=by
   rw[List.drop_eq_getElem_cons eR]
   congr 1
   rw[List.getElem?_eq_getElem eR] at hd;exact Option.some.inj hd
  rw[ed] at g;unfold RF.ee at g;rw[if_pos hc] at g;split at g
  .rename_i ρ1 ht;refine hg M S H' ρ ρ1 σ d x _ sm rd ht λσ1 s1=>⟨M,ρ1,S,s1,?_⟩;have next:∀{ρ2 S2},br X.K W E M H' (RF.ee chk is one b (items.drop (i+1)) ρ2 S2) D->∀M' H2 σ2,Sm X.K W M' S2 H2 ρ2 σ2->Up M H' M' H2 ->
    items.length-(i+1)=items.length-(i+1)/\i+1<=items.length/\∃M S ρ,Sm X.K W M S H2 ρ σ2/\ok M S H2/\br X.K W E M H2 (RF.ee chk is one b (items.drop (i+1)) ρ S) D:=λ{ρ2 S2} g M' H2 σ2 s2 u2=>
    ⟨rfl,eR,M',S2,ρ2,s2,wk.keep M S H' M' S2 H2 aq u2 s2.con (yR g),br.up g u2⟩
   cases ev:b ρ1 S with
   | nx ρ2 S2=>rw[ev] at g;exact next g
   | ct ρ2 S2=>rw[ev] at g;exact next g
   | bk ρ2 S2=>rw[ev] at g;exact g
   | rt d S2=>rw[ev] at g;exact g
   | bad=>rw[ev] at g;exact g
  .exact g.elim
 .have ei:i=items.length:=by omega
  subst ei;refine .inl ⟨wk.stop _ M S H sm.con aq (Nat.le_refl _),?_⟩;rw[List.drop_length] at g;unfold RF.ee at g;rw[if_pos hc] at g;exact br.nx g sm
end
end L2
namespace L2
open PySem PySem.Spec PyProof.Rows
open RF (D O ae Tab)
section
variable {X:Cx}{W:bw}{Γ:RF.Gm}{E:XK}{cl:RF.Calls}{k:Nat}{kt:RF.d0}{a b c e:Expr}{ca cb cc:RF.C D}{pos:Pos}
theorem br.qy {K:Fg}{M:List Addr}{H:Hp}{r:RF.F}{D:Ends}(h:br K W E M H (r) D):br K W E0 M H r D:=by
 cases r with
 | nx ρ S=>exact h
 | bk ρ S=>exact h
 | ct ρ S=>exact h
 | rt d S=>exact h
 | bad=>exact h
theorem Cw (C:eO X W Γ E cl k)(KO:dz kt W.T cl k){tg it:Expr}{body:List Stmt}{src:RF.Src}{is:List Nat}{one:Bool}{bd:RF.CS}{gt:TG}(hs:RF.srcOf W.T kt Γ it=some src)(hG:PG X.cT tg gt)(z5:mC X W is one gt)(hb:iC X.cT body (tF X.K W E0 bd)):
 PS X (.For tg it body [] pos) (tF X.K W E (RF.gM src is one bd)):=by
 refine PS.cT ?_;have CN:=C.cT;intro pins st σ H D I ⟨M,ρ,S,sm,g⟩;have g:br X.K W E0 M H (RF.Ei src is one bd ρ S) D:=br.qy g;have dyn:∀{it:Expr} {src:RF.Src},(if RF.dI it=true then some (RF.Src.dyn (kt.e Γ it)) else none)=some src->br X.K W E0 M H (RF.Ei src is one bd ρ S) D->wpAny (model X.cT.prog X.cT.w) X.cT.A (exec (.For tg it body [] pos) X.cT.env) (SP X.cT pins D) X.cT.xe st:=λ{it src} h g=>by
  split at h
  .rename_i hn;cases h;have fold:∀v,foldedSetIterable it X.cT.env v=pure v:=λv=>by cases it<;>first | rfl | (simp[RF.dI] at hn)
   have hl:=KO.e rfl CN.tobT it;have g:br X.K W E0 M H (RF.dY (kt.e Γ it ρ S) λx S1=>RF.nC is one bd x ρ S1) D:=g;cases ev:kt.e Γ it ρ S with
   | bad=>rw[ev] at g;exact g.elim
   | ok y S1=>
    rw[ev,RF.BR] at g;have lst:∀{n:Nat} {xs:List RF.D},y = .ref n->RF.itemsOf S1 (.ref n)=some xs->br X.K W E0 M H (RF.BV (.ref n) xs is one bd xs ρ S1) D->wpAny (model X.cT.prog X.cT.w) X.cT.A (exec (.For tg it body [] pos) X.cT.env) (SP X.cT pins D) X.cT.xe st:=λ{n xs} ey hi g0=>by refine n6 (X:=X.cT) PassesOwn.never C.calm (qw hl) hG hb fold pins st σ H D I (dG sm ev λM1 H1 u s1 u1 r1=>?_);rw[ey] at r1;obtain⟨p,rfl,ea⟩:=bC r1;obtain⟨vs,h1,h2⟩:=s1.con.items hi ea;exact⟨p,rfl,⟨vs,h1⟩,λhz=>oJ (X:=X) sP z5 s1 ⟨ea,hi⟩ (br.up g0 u1)⟩
    cases y with
    | ref n=>
     unfold RF.nC at g;dsimp only at g;split at g
     .rename_i xs hS;exact lst rfl (by unfold RF.itemsOf;dsimp only;rw[hS]) g
     .rename_i af hS;split at g
      .rename_i hk;refine zq (n6 (X:=X.cT) PassesOwn.never C.calm (xA hl) hG hb fold) pins st σ H D I (dG sm ev λM1 H1 u s1 u1 r1=>?_);obtain⟨p,rfl,ea⟩:=bC r1;obtain⟨H2,ts,hr,c2,u2,e2,h2⟩:∃H2 ts,(H2=H1\/kK H1 p H2)/\Cn X.K W M1 S1 H2/\Up M1 H1 M1 H2/\H2 p=some (.dT ts)/\Paired (bZ ofKeys M1 H2) af ts:=by
        rcases s1.con.at_ n _ p hS ea with⟨ks,h1,h2⟩|⟨ts,h1,h2⟩
        .have:=all_nil (g6 h2) hk (λk=>gE);subst this;cases h2;have re:kK H1 p (upd H1 p (.dT [])):=.inl ⟨h1,rfl⟩;obtain⟨c',u'⟩:=s1.con.ret hS ea re;exact⟨_,[],.inr re,c',u',aA,.nil⟩
        .exact⟨H1,ts,.inl rfl,s1.con,Up.refl _ _,h1,h2⟩
       refine⟨p,ts,H2,rfl,hr,e2,λod hz=>?_⟩;have n0:∀o u,X.cT.H₀ p≠some (.bR o u):=λo u z=>by have:=u2.c6 _ _ _ (u1.c6 _ _ _ (I.base.c6 p o u z));rw[e2] at this;cases this
       have c3:Cn X.K W M1 (S1.set n (.c7 af)) (upd H2 p (.bR od (.dT ts))):=c2.bR hS ea e2 h2;have u3:Up M1 H2 M1 (upd H2 p (.bR od (.dT ts))):=aW (d7 e2 rfl);have s3:Sm X.K W M1 (S1.set n (.c7 af)) (upd H2 p (.bR od (.dT ts))) ρ σ:=s1.to c3 (u2.trans u3);have g3:br X.K W E0 M1 H1 (RF.sf n (RF.forL is one bd (af.map (·.1)) ρ (S1.set n (.c7 af)))) D:=br.up g u1;refine oJ (X:=X) (yN (Paired.length h2) (keysAt h2)) z5 s3 aA ?_;show br X.K W E0 _ _ (RF.forL is one bd (af.map (·.1)) ρ (S1.set n (.c7 af))) _;cases er:RF.forL is one bd (af.map (·.1)) ρ (S1.set n (.c7 af)) with
       | nx ρ4 S4=>
        rw[er] at g3;intro M4 H4 σ4 s4 u4;have e4:H4 p=some (.bR od (.dT ts)):=u4.c6 _ _ _ aA;refine⟨p,od,ts,e4,n0,?_⟩;unfold RF.sf at g3;dsimp only at g3;split at g3
        .rename_i oz hS4;have c5:=s4.con.vH hS4 (dU u4.pre ea) e4;exact g3 M4 _ σ4 ⟨c5,λi d e=>let ⟨v,z1,z2⟩:=s4.env i d e;⟨v,z1,z2.dW (jM λxs z=>by rw[e4] at z;cases z)⟩,s4.len⟩ (u2.trans (ze (o:=.dT ts) e2 u4))
        .exact g3.elim
       | rt d S4=>rw[er] at g3;exact g3.elim
       | bk ρ4 S4=>rw[er] at g3;exact g3.elim
       | ct ρ4 S4=>rw[er] at g3;exact g3.elim
       | bad=>rw[er] at g3;exact g3.elim
      .exact g.elim
     .exact g.elim
    | _=>exact g.elim
  .cases h
 unfold RF.srcOf at hs;split at hs
 .rename_i r pr a pc;split at hs
  .rename_i hr;obtain⟨rfl,hg,hp⟩:=hr;cases hs;have ha:=KO.e rfl CN.tobT a;have args:PA X.cT [a] (pq (tE X.K W E0 (kt.e Γ a)) lX):=dQ ha gF (aC hp);have DY:PI X.cT tg (.Call (.Name "range" pr) [a] [] pc) (Aj (pq (tE X.K W E0 (kt.e Γ a)) lX)):=uj (CN.tobT.gl hg).1 (C.top.blt _ (by simp[cD])) args (by rw[aC hp];rfl);refine n6 (X:=X.cT) PassesOwn.never C.calm DY hG hb (λv=>rfl) pins st σ H D I ?_;have g:br X.K W E0 M H (RF.dY (kt.e Γ a ρ S) λx S1=>match x with | .int j=>if RF.eX j=true then RF.forL is one bd (RF.d5 0 j.toNat) ρ S1 else .bad | _=>.bad) D:=g;refine i9 sm g λM1 H1 d u S1 s1 u1 r1 g1=>?_;cases d with
   | int j=>
    dsimp only at g1;split at g1
    .rename_i hz;unfold RF.eX at hz;simp only[Bool.and_eq_true,decide_eq_true_eq] at hz;cases r1;exact⟨j,rfl,hz.1,hz.2,oJ (X:=X) wo z5 s1 trivial g1⟩
    .exact g1.elim
   | _=>exact g1.elim
  .exact dyn hs g
 .rename_i r pr a b c pc;split at hs
  .rename_i hr;obtain⟨rfl,hg,hp,m1,m2⟩:=hr;cases hs;obtain⟨j1,p1,q1,rfl⟩:=uD m1;obtain⟨j2,p2,q2,rfl⟩:=uD m2;have ha:=KO.e rfl CN.tobT a;have args:=dQ (X:=X.cT) (es:=[.UnaryOp .USub (.Constant (.int 1) j1 p1) q1,.UnaryOp .USub (.Constant (.int 1) j2 p2) q2]) ha (dQ (AQ wW xH) (dQ (AQ wW xH) gF)) (aC hp);have DY:=B8 (tg:=tg) (pos:=pc) (p:=pr) (CN.tobT.gl hg).1 (C.top.blt _ (by simp[cD])) args (by rw[aC hp];rfl);refine n6 (X:=X.cT) PassesOwn.never C.calm DY hG hb (λv=>rfl) pins st σ H D I ?_;have g:br X.K W E0 M H (RF.dY (kt.e Γ a ρ S) λx S1=>match x with | .int j=>if 0<=j/\j<=1000 then RF.forL is one bd (RF.gK j.toNat) ρ S1 else .bad | _=>.bad) D:=g;refine i9 sm g λM1 H1 d u S1 s1 u1 r1 g1=>?_;cases d with
   | int j=>
    dsimp only at g1;split at g1
    .rename_i hz;cases r1;have ej:((j.toNat:Nat):Int)=j:=Int.toNat_of_nonneg hz.1;refine⟨1,rfl,1,rfl,j.toNat,by rw[ej],by omega,oJ (X:=X) IY z5 s1 trivial g1⟩
    .exact g1.elim
   | _=>exact g1.elim
  .cases hs
 .exact dyn hs g
mutual
theorem au.trim {M:List Addr}{H:Hp}{n:Nat}{d:D}{v:V}(r:au M H d v)(h:RF.kF n d=true):au (M.take n) H d v:=by
 cases r with
 | aj=>exact .aj
 | bl b=>exact .bl b
 | int i=>exact .int i
 | str x=>exact .str x
 | tup e rs=>exact .tup e (ay.trim rs h)
 | ref e=>have h:=of_decide_eq_true h;exact .ref (by rw[List.getElem?_take_of_lt h];exact e)
theorem ay.trim {M:List Addr}{H:Hp}{n:Nat}{ds:List D}{vs:List V}(r:ay M H ds vs)(h:RF.kF.tO n ds=true):ay (M.take n) H ds vs:=by
 cases r with
 | nil=>exact .nil
 | cons r rs=>unfold RF.kF.tO at h;rw[Bool.and_eq_true] at h;exact .cons (au.trim r h.1) (ay.trim rs h.2)
end
theorem qM {n:Nat}:∀{xs:List D},xs.all (RF.kF n)=true->RF.kF.tO n xs=true
 | [],_=>rfl
 | x::xs,h=>by rw[List.all_cons,Bool.and_eq_true] at h;unfold RF.kF.tO;rw[h.1,qM h.2];rfl
theorem Paired.mapA {α β:Type}{F G:α->β->Prop}{g:α->Bool}{l:List α}{m:List β}(h:Paired F l m)(ha:l.all g=true)(k:∀p q,g p=true->F p q->G p q):Paired G l m:=by
 induction h with
 | nil=>exact .nil
 | cons r t ih=>rw[List.all_cons,Bool.and_eq_true] at ha;exact .cons (k _ _ ha.1 r) (ih ha.2)
theorem eU.trim {K:Fg}{M:List Addr}{H:Hp}{n:Nat}{a:Addr}{o:O}(r:eU K W M H a o)(h:RF.i0 n o=true):eU K W (M.take n) H a o:=by
 cases o with
 | lst xs=>obtain⟨vs,h1,h2⟩:=r;exact⟨vs,h1,h2.trim (qM h)⟩
 | cq xs=>obtain⟨vs,h1,h2⟩:=r;exact⟨vs,h1,h2.trim (qM h)⟩
 | aN af=>
  rcases r with⟨ks,h1,h2⟩|⟨ts,h1,h2⟩
  .exact .inl ⟨ks,h1,Paired.mapA h2 h λp q z y=>⟨y.1,y.2.trim (Bool.and_eq_true .. ▸ z).2⟩⟩
  .exact .inr ⟨ts,h1,Paired.mapA h2 h λp q z y=>⟨y.1,y.2.trim (Bool.and_eq_true .. ▸ z).2⟩⟩
 | c7 af=>obtain⟨o,ts,h1,h2⟩:=r;exact⟨o,ts,h1,Paired.mapA h2 h λp q z y=>⟨y.1,y.2.trim (Bool.and_eq_true .. ▸ z).2⟩⟩
 | jx af=>obtain⟨xs,ps,h1,h2,h3⟩:=r;exact⟨xs,ps,h1,h2,Paired.mapA h3 h λp q z y=>⟨y.1,y.2.trim (Bool.and_eq_true .. ▸ z).2⟩⟩
 | obj c fs=>obtain⟨dx,gs,h1,h2,h3⟩:=r;exact⟨dx,gs,h1,h2,Paired.mapA h3 h λp q z y=>⟨y.1,y.2.trim z⟩⟩
section
variable {K:Fg}{M:List Addr}{S:ae}{H:Hp}{ρ:RF.Env}{σ:St}{n:Nat}
theorem Cn.trim (c:Cn K W M S H)(ho:(S.take n).all (RF.i0 n)=true):Cn K W (M.take n) (S.take n) H:=by
 have lt:∀{α:Type} {l:List α} {i:Nat} {a:α},(l.take n)[i]?=some a->i<n/\l[i]?=some a:=λ{α l i a} h=>by
  rcases Nat.lt_or_ge i n with hi | hi
  .exact⟨hi,by rw[List.getElem?_take_of_lt hi] at h;exact h⟩
  .rw[List.getElem?_take_eq_none hi] at h;cases h
 refine⟨by simp[c.len],c.sM,λi j a h1 h2 r1 r2=>?_,λi o a h1 h2=>?_,c.gq⟩
 .obtain⟨l1,h1⟩:=lt h1;obtain⟨l2,h2⟩:=lt h2;rw[List.getElem?_take_of_lt l1] at r1;rw[List.getElem?_take_of_lt l2] at r2;exact c.sep i j a h1 h2 r1 r2
 .exact(c.at_ i o a (lt h1).2 (lt h2).2).trim (List.all_eq_true.mp ho o (List.mem_of_getElem? h1))
theorem uF {M':List Addr}(h:kT M H ρ σ)(hM:M'=M.take n):kT M' H (RF.gk n ρ) σ:=λi d e=>by
 unfold RF.gk at e;rw[List.getElem?_map] at e;obtain⟨o,e1,e2⟩:=Option.map_eq_some_iff.mp e;obtain⟨d',e3,e4⟩:=Option.bind_eq_some_iff.mp e2;subst e3;split at e4
 .rename_i hd;cases e4;obtain⟨v,g1,g2⟩:=h i d e1;rw[hM];exact⟨v,g1,g2.trim hd⟩
 .cases e4
theorem Sm.trim (s:Sm K W M S H ρ σ)(ho:(S.take n).all (RF.i0 n)=true):Sm K W (M.take n) (S.take n) H (RF.gk n ρ) σ:=
 ⟨s.con.trim ho,uF s.env rfl,by unfold RF.gk;rw[List.length_map];exact s.len⟩
theorem Cn.pad (c:Cn K W M S H){a0:Addr}{xs:List D}(h0:M[0]?=some a0)(hS:S[0]?=some (.cq xs))(j:Nat):Cn K W (M++List.replicate j a0) (S++List.replicate j (.cq xs)) H:=by
 have u:Up M H (M++List.replicate j a0) H:=⟨⟨List.prefix_append _ _,λ_ _ h=>h⟩,λ_ _ _ h=>h⟩;have cq:∀i,S.length<=i->i<S.length+j->(S++List.replicate j (O.cq xs))[i]?=some (.cq xs):=λi h1 h2=>by rw[List.getElem?_append_right h1,List.getElem?_replicate,if_pos (by omega)]
 have lt:∀i a,(M++List.replicate j a0)[i]?=some a->i<S.length+j:=λi a h=>by have:=(List.getElem?_eq_some_iff.mp h).1;rw[List.length_append,List.length_replicate,c.len] at this;exact this
 refine⟨by simp[c.len],c.sM,λi k a h1 h2 r1 r2=>?_,λi o a h1 h2=>?_,c.gq⟩
 .have small:∀i a,(M++List.replicate j a0)[i]?=some a->fL (S++List.replicate j (O.cq xs))[i]?=false->i<S.length:=λi a h r=>by
   rcases Nat.lt_or_ge i S.length with z | z
   .exact z
   .rw[cq i z (lt i a h)] at r;cases r
  have l1:=small i a h1 r1;have l2:=small k a h2 r2;rw[List.getElem?_append_left (by rw[c.len];exact l1)] at h1;rw[List.getElem?_append_left (by rw[c.len];exact l2)] at h2;rw[List.getElem?_append_left l1] at r1;rw[List.getElem?_append_left l2] at r2;exact c.sep i k a h1 h2 r1 r2
 .rcases Nat.lt_or_ge i S.length with z | z
  .rw[List.getElem?_append_left z] at h1;rw[List.getElem?_append_left (by rw[c.len];exact z)] at h2;exact(c.at_ i o a h1 h2).up u λv h=>h
  .rw[cq i z (lt i a h2)] at h1;cases h1;rw[List.getElem?_append_right (by rw[c.len];exact z),List.getElem?_replicate] at h2;split at h2
   .cases h2;exact(c.at_ 0 _ _ hS h0).up u λv h=>h
   .cases h2
theorem FX {M M':List Addr}(h:M <+: M')(hl:M.length=n):M'.take n=M:=by obtain⟨t,rfl⟩:=h;rw[<-hl,List.take_left'];rfl
theorem Fi {a:D}{all:List D}{i:Nat}{b:RF.CS}{l:List D}{D:Ends}(g:br K W E M H (RF.iN n a all i b l ρ S) D):RF.eZ a all S=true:=by
 cases h:RF.eZ a all S with
 | true=>rfl
 | false=>
  exfalso;cases l with
  | nil=>unfold RF.iN at g;rw[h] at g;exact g
  | cons x xs=>unfold RF.iN at g;rw[h] at g;exact g
theorem EV {m:Nat}{p:Addr}{items:List D}{i:Nat}{b:RF.CS}{D:Ends}(sm:Sm K W M S H ρ σ)(hl:S.length=n)(hp:M[m]?=some p)(g:br K W E0 M H (RF.iN n (.ref m) items i b items ρ S) D):∃Wv:Nat->Nat->St->Hp->Prop,(∃m,Wv 0 m σ H)/\∀ix m σ H,Wv ix m σ H ->
 ((y3 K p).stop ix H/\D.nx σ H)\/((y3 K p).go ix H/\∃N:St->Hp->Prop,(∀σ' H',N σ' H'->∃m',m'<m/\Wv (ix+1) m' σ' H')/\∀x H',(y3 K p).xW ix H x H'->oF i x σ H' λσ2 H2=>tF K W E0 b { D with nx:=N,ct:=N,bk:=D.nx } σ2 H2):=by
 refine⟨λix mm σ H=>mm=items.length-ix/\ix<=items.length/\∃S ρ,Sm K W M S H ρ σ/\S.length=n/\br K W E0 M H (RF.iN n (.ref m) items i b (items.drop ix) ρ S) D,⟨items.length,by simp,Nat.zero_le _,S,ρ,sm,hl,by rw[List.drop_zero];exact g⟩,?_⟩;rintro ix mm σ H ⟨rfl,hi,S,ρ,sm,hl,g⟩;have hc:=Fi g;have hit:RF.itemsOf S (.ref m)=some items:=of_decide_eq_true hc;have wk:=sP (K:=K) (W:=W) (n:=m) (a:=p) (items:=items);rcases Nat.lt_or_ge ix items.length with eR | m7
 .obtain⟨go,yl⟩:=wk.go ix M S H sm.con ⟨hp,hit⟩ eR;refine .inr ⟨go,_,λσ' H' z=>⟨items.length-(ix+1),by omega,z⟩,λx H' y=>?_⟩;obtain⟨rfl,d,hd,rd⟩:=yl x H' y;have ed:items.drop ix=d::items.drop (ix+1):=by
   rw[List.drop_eq_getElem_cons eR]
   congr 1
   rw[List.getElem?_eq_getElem eR] at hd;exact Option.some.inj hd
  rw[ed] at g;unfold RF.iN at g;rw[if_pos hc] at g;show tF K W E0 b _ _ _;refine⟨M,ρ.set i (some d),S,sm.set rd,?_⟩;cases ev:b (ρ.set i (some d)) S with
  | nx ρ1 S1=>
   rw[ev] at g;dsimp only at g;split at g
   .rename_i hz;intro M' H2 σ2 s2 u2;have s3:=s2.trim (n:=n) hz.1;rw[FX u2.pre (sm.con.len.trans hl)] at s3;exact⟨rfl,eR,S1.take n,RF.gk n ρ1,s3,by rw[List.length_take];omega,br.up g ⟨⟨List.prefix_rfl,u2.dM⟩,u2.c6⟩⟩
   .exact g.elim
  | rt d S2=>rw[ev] at g;exact g
  | ct ρ2 S2=>rw[ev] at g;exact g.elim
  | bk ρ2 S2=>rw[ev] at g;exact g.elim
  | bad=>rw[ev] at g;exact g.elim
 .have ei:ix=items.length:=by omega
  subst ei;refine .inl ⟨wk.stop _ M S H sm.con ⟨hp,hit⟩ (Nat.le_refl _),?_⟩;rw[List.drop_length] at g;unfold RF.iN at g;rw[if_pos hc] at g;exact br.nx g sm
end
theorem IL (C:eO X W Γ E cl k)(KO:dz kt W.T cl k){x:Str}{px:Pos}{it:Expr}{body:List Stmt}{i n:Nat}{bd:RF.CS}(hi:RF.slot Γ x=some i)(hr:RF.lZ it=true)(hb:iC X.cT body (tF X.K W E0 bd)):
 PS X (.For (.Name x px) it body [] pos) (tF X.K W E (RF.jG n (kt.e Γ it) i bd)):=by
 refine PS.cT ?_;have CN:=C.cT;intro pins st σ H D I ⟨M,ρ,S,sm,g⟩;have g:br X.K W E0 M H (RF.dY (kt.e Γ it ρ S) λx S1=>match x with
  | .ref m=>match S1[m]?,RF.xI n S1 with
   | some (.lst xs),some S2=>if S2.all (RF.i0 n)=true then RF.iN n x xs i bd xs (RF.gk n ρ) S2 else .bad
   | _,_=>.bad
  | _=>.bad) D:=br.qy g
 have fold:∀v,foldedSetIterable it X.cT.env v=pure v:=λv=>by cases it<;>first | rfl | (simp[RF.lZ] at hr)
 obtain⟨h1,h2⟩:=fF CN hi;refine n6 (X:=X.cT) PassesOwn.never C.calm (qw (KO.e rfl CN.tobT it)) (pv CN.nd h1 h2 (.inl (C.fn _))) hb fold pins st σ H D I ?_;refine i9 sm g λM1 H1 d u S1 s1 u1 r1 g1=>?_;cases d with
 | ref m=>
  obtain⟨p,rfl,ea⟩:=bC r1;dsimp only at g1;split at g1
  .rename_i xs S2 hS tQ;obtain⟨vs,q1,q2⟩:=s1.con.lst hS ea;refine⟨p,rfl,⟨vs,cm.of q1⟩,λhz=>?_⟩;split at g1
   .rename_i aq;unfold RF.xI at tQ;split at tQ
    .rename_i ys h0;split at tQ
     .rename_i hle;cases tQ;have l0:0<M1.length:=by rw[s1.con.len];exact(List.getElem?_eq_some_iff.mp h0).1
      have c2:=s1.con.pad (List.getElem?_eq_getElem l0) h0 (n-S1.length);have hlen:(S1++List.replicate (n-S1.length) (O.cq ys)).length=n:=by simp;omega
      have up2:Up M1 H1 (M1++List.replicate (n-S1.length) M1[0]) H1:=⟨⟨List.prefix_append _ _,λ_ _ h=>h⟩,λ_ _ _ h=>h⟩;have s2:=s1.to c2 up2;have s3:Sm X.K W (M1++List.replicate (n-S1.length) M1[0]) (S1++List.replicate (n-S1.length) (O.cq ys)) H1 (RF.gk n ρ) σ:=
       ⟨c2,uF s2.env (by rw[List.take_of_length_le];rw[c2.len,hlen];exact Nat.le_refl _),by unfold RF.gk;rw[List.length_map];exact s2.len⟩
      exact EV s3 hlen (dU up2.pre ea) (br.up g1 up2)
     .cases tQ
    .cases tQ
   .exact g1.elim
  .exact g1.elim
 | _=>exact g1.elim
def EA (kt:RF.d0)(T:Tab)(cl:RF.Calls)(k:Nat):Prop:=∀(X:Cx) (W:bw) (Γ:RF.Gm) (E:XK),W.T=T->eO X W Γ E cl k->∀s,PS X s (tF X.K W E (kt.s Γ s))
def Fl (kt:RF.d0)(T:Tab)(cl:RF.Calls)(k:Nat):Prop:=∀(X:Cx) (W:bw) (Γ:RF.Gm) (E:XK),W.T=T->eO X W Γ E cl k->∀(x:Str) (px:Pos) (e:Expr) (pos:Pos) (i:Nat),RF.slot Γ x=some i->PS X (.Assign [.Name x px] e pos) (tF X.K W E (RF.bf i (kt.e Γ e)))
theorem kI {st:Stmt}{i:Nat}:PS X st (tF X.K W E (RF.bf i RF.a7)):=λ_ _ _ _ _ _ ⟨_,_,_,_,g⟩=>g.elim
theorem ED (KO:dz kt W.T cl k)(C:eO X W Γ E cl k)(x:Str)(px:Pos)(e:Expr)(pos:Pos)(i:Nat)(hi:RF.slot Γ x=some i):PS X (.Assign [.Name x px] e pos) (tF X.K W E (RF.bf i (RF.rF W.T cl kt Γ e))):=by
 cases hc:RF.fY e with
 | false=>exact C6 C hi (xF KO C.tobT e) (xc hc)
 | true=>
  cases e with
  | ListComp elt gens sc p=>
   show PS X _ (tF X.K W E (RF.bf i (match RF.iT W.T kt Γ (.ListComp elt gens sc p) with | some c=>λρ S=>(c ρ S).bind λys S1=>RF.fI (.lst ys) S1 | none=>RF.a7)));split
   .rename_i c hcg;exact J7 C KO hi hcg
   .exact kI
  | SetComp _ _ _ _=>exact kI
  | DictComp _ _ _ _ _=>exact kI
  | _=>simp[RF.fY] at hc
theorem J5 (he:∀e,PE X e (tE X.K W E (kt.e Γ e)))(C:eO X W Γ E cl k)(ts:List Expr)(kk:Nat)(pt:Pos)(e:Expr)(p:Pos):PS X (.Assign [.Tuple ts kk pt] e p) (tF X.K W E (RF.EK kt Γ ts e)):=by
 unfold RF.EK;split
 .exact cS
 .rename_i is hi;have gen:∀e,(∀es k2 p2,e ≠ .Tuple es k2 p2)->PS X (.Assign [.Tuple ts kk pt] e p) (tF X.K W E (if RF.fY e=true then RF.cf else RF.tupS is (kt.e Γ e))):=λe eJ=>by
   split
   .exact cS
   .exact KU C hi (he _) (KH eJ)
  cases e with
  | Tuple es k2 p2=>
   dsimp only;split
   .rename_i h;exact LM C hi (iG he) h.1 h.2.1 h.2.2.1 h.2.2.2
   .exact cS
  | _=>exact gen _ λ_ _ _ z=>by cases z
theorem Jz (KO:dz kt W.T cl k)(KA:Fl kt W.T cl k)(C:eO X W Γ E cl k)(tg e:Expr)(p:Pos):PS X (.Assign [tg] e p) (tF X.K W E (RF.Ku W.T kt Γ tg e)):=by
 have he:=λe=>KO.e rfl C.tobT e;cases tg with
 | Name x px=>
  show PS X _ (tF X.K W E (match RF.slot Γ x with | some i=>RF.bf i (kt.e Γ e) | none=>RF.cf));split
  .rename_i i hi;exact KA _ _ _ _ rfl C x px e p i hi
  .exact cS
 | Tuple ts kk pt=>exact J5 he C ts kk pt e p
 | Attribute a f pa=>
  show PS X _ (tF X.K W E (match RF.bY W.T.cJ f with | some i=>RF.eW W.T.plain (kt.e Γ a) i (kt.e Γ e) | none=>RF.cf));split
  .rename_i i hi;exact MC C hi (he _) (he _)
  .exact cS
 | Subscript a i pa=>
  show PS X _ (tF X.K W E (if RF.fY e=true\/RF.eY i=false then RF.cf else RF.iw (kt.e Γ a) (kt.e Γ i) (kt.e Γ e)));split
  .exact cS
  .rename_i h;simp only[not_or,Bool.not_eq_true,Bool.not_eq_false] at h;exact Lb C (he _) (he _) (he _) h.2
 | _=>exact cS
theorem IB (KO:dz kt W.T cl k)(KS:EA kt W.T cl k)(C:eO X W Γ E cl k)(tg it:Expr)(body:List Stmt)(p:Pos):PS X (.For tg it body [] p) (tF X.K W E (RF.FF W.T kt Γ tg it body)):=by
 have hsN:∀ss:List Stmt,iC X.cT ss (tF X.K W E0 (RF.ah (ss.map (kt.s Γ)))):=λss=>Hf (X:=X.cT) λs _=>KS _ _ _ _ rfl C.cT s;cases tg with
 | Name x px=>
  show PS X _ (tF X.K W E (match RF.slot Γ x,RF.srcOf W.T kt Γ it with
   | some i,some s=>if RF.lZ it=true then RF.jG RF.jb (kt.e Γ it) i (RF.ah (body.map (kt.s Γ))) else RF.gM s [i] true (RF.ah (body.map (kt.s Γ)))
   | _,_=>RF.cf))
  split
  .rename_i i src hi GA;split
   .rename_i hr;exact IL C KO hi hr (hsN _)
   .obtain⟨h1,h2⟩:=fF C.cT hi;exact Cw C KO GA (pv C.cT.nd h1 h2 (.inl (C.fn _))) zk (hsN _)
  .exact cS
 | Tuple ts kk pt=>
  show PS X _ (tF X.K W E (match RF.slots Γ ts,RF.srcOf W.T kt Γ it with | some is,some s=>RF.gM s is false (RF.ah (body.map (kt.s Γ))) | _,_=>RF.cf));split
  .rename_i is src hi GA;obtain⟨a1,a2,a3⟩:=gj (env:=X.cT.env) hi;exact Cw C KO GA (rT C.calm (kE C.cT hi) rfl a2) (CW (a3.trans a1.symm)) (hsN _)
  .exact cS
 | _=>exact cS
theorem E2 (KO:dz kt W.T cl k)(KA:Fl kt W.T cl k)(KS:EA kt W.T cl k)(C:eO X W Γ E cl k)(s:Stmt):PS X s (tF X.K W E (RF.G6 W.T cl kt Γ s)):=by
 have he:=λe=>KO.e rfl C.tobT e;have hs:∀ss:List Stmt,iC X ss (tF X.K W E (RF.ah (ss.map (kt.s Γ)))):=λss=>Hf λs _=>KS _ _ _ _ rfl C s;cases s with
 | Pass p=>exact IF
 | Break p=>exact F4
 | Continue p=>exact Je
 | Expr e p=>
  show PS X _ (tF X.K W E (if RF.fY e=true then RF.cf else RF.bh (kt.e Γ e)));split
  .exact cS
  .rename_i hc;exact IJ (he _) (by simpa using hc)
 | Return o p=>cases o with
  | some e=>exact Ld (he _)
  | none=>exact Jt
 | If c a b p=>exact N5 (KO.t rfl C.tobT _) (hs _) (hs _)
 | Assign ts e p=>
  match ts with
  | [tg]=>exact Jz KO KA C tg e p
  | []=>exact cS
  | _::_::_=>exact cS
 | Delete ts p=>
  match ts with
  | []=>exact cS
  | t::_::_=>cases t<;>exact cS
  | [t]=>
   cases t with
   | Subscript a i q=>
    show PS X _ (tF X.K W E (if RF.eY i=true then RF.oe (kt.e Γ a) (kt.e Γ i) else RF.cf));split
    .exact Lf C (he _) (he _)
    .exact cS
   | _=>exact cS
 | For tg it body els q=>
  show PS X _ (tF X.K W E (if els.isEmpty=true then RF.FF W.T kt Γ tg it body else RF.cf));split
  .rename_i h;cases els with
   | nil=>exact IB KO KS C tg it body _
   | cons _ _=>cases h
  .exact cS
 | _=>exact cS
theorem JY (T:Tab)(cl:RF.Calls)(k:Nat):∀n,Fl (RF.qX T cl n) T cl k
 | 0=>λ_ _ _ _ _ _ _ _ _ _ _ _=>kI
 | n+1=>by intro X W Γ E hT C x px e pos i hi;subst hT;exact ED (tK _ cl k n) C x px e pos i hi
theorem zp (T:Tab)(cl:RF.Calls)(k:Nat):∀n,EA (RF.qX T cl n) T cl k
 | 0=>λ_ _ _ _ _ _ _=>cS
 | n+1=>by intro X W Γ E hT C s;subst hT;exact E2 (tK _ cl k n) (JY _ cl k n) (zp _ cl k n) C s
end
end L2
namespace L2
open PySem PySem.Spec PyProof.Rows
open RF (D O ae Tab)
section
variable {P:Program}{w:World}{K:Fg}{mg:Str->Option Value}{base:Heap}{W:bw}{cl:RF.Calls}{k:Nat}
theorem Bn {st:Stmt}{g:RF.Fn}(h:RF.fnOf st=some g):bo st=g.sc/\cz st=g.body:=by
 unfold RF.fnOf RF.OM at h;cases st with
 | FunctionDef nm a b dl r tp sc ts bd p=>
  dsimp only at h;split at h
  .cases h;exact⟨rfl,rfl⟩
  .cases h
 | _=>cases h
theorem Dr {M:List Addr}{H:Hp}{N:List Str}{ds:List D}{vs:List V}(r:ay M H ds vs):kT M H (RF.iY N ds) (start N vs)/\(RF.iY N ds).length=(start N vs).length:=by
 have hl:=r.length;refine⟨λi d e=>?_,?_⟩
 .unfold RF.iY at e;unfold start;have hi:i<ds.length:=by
   rcases Nat.lt_or_ge i ds.length with z | z
   .exact z
   .rw[List.getElem?_append_right (by simpa using z),List.getElem?_replicate] at e;split at e<;>cases e
  rw[List.getElem?_append_left (by simpa using hi),List.getElem?_map] at e;obtain⟨d',e1,e2⟩:=Option.map_eq_some_iff.mp e;cases e2;obtain⟨v,g1,g2⟩:=r.get e1;exact⟨v,by rw[List.getElem?_append_left (by rw[List.length_map,<-hl];exact hi),List.getElem?_map,g1];rfl,g2⟩
 .unfold RF.iY start;simp[hl]
theorem fV.PX {x qual:Str}{st:Stmt}{f:Addr}{fd:FuncData}{N ps:List Str}{k:Nat}{sp:Sp}(F:fV K x qual st f fd)(S:gm N ps (bo st))(len:∀vs H Q E,sp vs H Q E->vs.length=ps.length)
 (BA:∀(A:Around) (outer:List Env) (s:Sh) (H:Hp) (vs:List V) (Q:VK) (E:XK),cO k (A.deeper (envOfC qual (bo st) s.heap.objs.size f fd.code))->sp vs H Q E ->
   ∃t,iC (qz (lH P w) P w K mg base N qual (bo st) f fd.code A outer s H E) (cz st) t/\t { nx:=λ_ H'=>Q .aj H',rt:=Q } (start N vs) H):dE P w K mg base (lH P w) (k+1) f fd ps sp:=by
 obtain⟨oc,od,kV,doc,pm,an,g8,ct,uT,rfl,lk,sI⟩:=F.ex;exact Nv lk sI S len λA outer s H vs Q E hr uU=>BA A outer s H vs Q E hr uU
theorem v8 {x qual:Str}{st:Stmt}{f:Addr}{fd:FuncData}{g:RF.Fn}(F:fV K x qual st f fd)(hf:RF.fnOf st=some g)(S:gm g.N g.ps g.sc)(top:TopK P w K mg base W cl k):dE P w K mg base (lH P w) (k+4) f fd g.ps (nR K W (RF.gL W.T cl g) g.ps.length):=by
 obtain⟨p1,p2⟩:=Bn hf;refine F.PX (k:=k+3) (N:=g.N) (by rw[p1];exact S) (λvs H Q E h=>h.1) (λA outer s H vs Q E hr h=>?_);obtain⟨hn,M,St,ds,cn,r,gl⟩:=h;have C:eO (qz (lH P w) P w K mg base g.N qual (bo st) f fd.code A outer s H E) W ⟨g.N,g.sc,g.lam⟩ E0 cl k:=
  ⟨⟨rfl,S.nd,by show oq g.sc (bo st);rw[p1];exact oq.refl _,rfl,hr.mono (by omega),Be,top⟩,hr.mono (by omega),λ_=>rfl,p1,by show (bo st).kind=_;rw[p1];exact S.kind⟩
 refine⟨_,by rw[p2];exact Hf λs _=>zp W.T cl k RF.He _ W ⟨g.N,g.sc,g.lam⟩ E0 rfl C s,?_⟩;unfold RF.gL at gl;rw[if_pos (r.length.trans hn)] at gl;obtain⟨e1,e2⟩:=Dr (N:=g.N) r;refine⟨M,RF.iY g.N ds,St,⟨cn,e1,e2⟩,?_⟩;show br K W E0 M H (RF.ah (g.body.map ((RF.qX W.T cl RF.He).s ⟨g.N,g.sc,g.lam⟩)) (RF.iY g.N ds) St) _;cases ev:RF.ah (g.body.map ((RF.qX W.T cl RF.He).s ⟨g.N,g.sc,g.lam⟩)) (RF.iY g.N ds) St with
 | nx ρ S'=>rw[ev] at gl;exact λM' H' σ' s' u'=>gl M' H' .aj s'.con u' .aj
 | rt d S'=>rw[ev] at gl;exact gl
 | bk ρ S'=>rw[ev] at gl;exact gl.elim
 | ct ρ S'=>rw[ev] at gl;exact gl.elim
 | bad=>rw[ev] at gl;exact gl.elim
structure Bv (P:Program)(w:World)(K:Fg)(mg:Str->Option Value)(base:Heap)(W:bw)(pr:RF.Prog):Prop where
 T:W.T=pr.T
 cons:∀x d,W.T.cons.lookup x=some d->∃u v,mg x=some u/\RelV v u/\∀M H,au M H d v
 fn:∀x i,RF.bY W.T.eg x=some i->∃st g f fd,pr.fs[i]?=some st/\RF.fnOf st=some g/\fV K x x st f fd/\gm g.N g.ps g.sc/\mg x=some (.ref f)/\Binds K fd g.ps []
 tP:∀x c,RF.bY W.T.gf x=some c->mg x=some (.ref (W.c c))
 x9:∀c,c<W.T.gf.length->gH K (W.c c)
 plain:∀c f x,c<W.T.gf.length->W.T.plain c f=true->W.T.cJ[f]?=some x->hV K (W.c c) x
 mt:∀c m x,W.T.aJ c m=true->W.T.cJ[m]?=some x->∃st g f fd q,(pr.ms.find? λy=>y.1==c&&y.2.1==m)=some (c,m,st)/\RF.fnOf st=some g/\fV K x q st f fd/\gm g.N g.ps g.sc/\Meth K (W.c c) x f/\jS K W.T c x fd g.ps/\(x = "__init__"->Mk K (W.c c) f)/\gH K (W.c c)
 blt:∀x∈cD,mg x=none
 ph:W.ph=dw P w
theorem BW {f:Addr}{fd:FuncData}{ps:List Str}{h:List D->ae->RF.R D}{n:Nat}(hb:∀ds S,h ds S = .bad):dE P w K mg base (lH P w) n f fd ps (nR K W h ps.length):=
 ⟨λvs H Q E z=>z.1,λA outer s H args us vs Q E hr e0 hbd hv ⟨_,M,S,ds,_,_,g⟩=>by rw[hb] at g;exact g.elim⟩
theorem B3 {pr:RF.Prog}(G:Bv P w K mg base W pr):∀n,TopK P w K mg base W (RF.calls pr n) (4*n)
 | 0=>⟨G.cons,λx i h=>by
  obtain⟨st,g,f,fd,h1,h2,h3,h4,h5,h6⟩:=G.fn x i h;exact⟨f,fd,g.ps,BW λ_ _=>rfl,λ_ _ _=>rfl,h5,h3.kp,h6⟩,G.tP,G.x9,G.plain,λc m x h hx=>by
  obtain⟨st,g,f,fd,q,h1,h2,h3,h4,h5,h6,h7,h8⟩:=G.mt c m x h hx;exact⟨f,fd,g.ps,BW λ_ _=>rfl,λ_ _ _=>rfl,h5,h6,h7,h8⟩,G.blt,G.ph⟩
 | n+1=>by
  have ih:=B3 G n;refine⟨G.cons,λx i h=>?_,G.tP,G.x9,G.plain,λc m x h hx=>?_,G.blt,G.ph⟩
  .obtain⟨st,g,f,fd,h1,h2,h3,h4,h5,h6⟩:=G.fn x i h;have e:(RF.calls pr (n+1)).f i=RF.gL W.T (RF.calls pr n) g:=by
    funext vs S
    show (match pr.fn i with | some g=>RF.gL pr.T (RF.calls pr n) g vs S | none=>.bad)=_;unfold RF.Prog.fn;rw[h1,Option.bind_some,h2,G.T]
   rw[e];refine⟨f,fd,g.ps,v8 h3 h2 h4 ih,λds S hl=>?_,h5,h3.kp,h6⟩;unfold RF.gL;rw[if_neg hl]
  .obtain⟨st,g,f,fd,q,h1,h2,h3,h4,h5,h6,h7,h8⟩:=G.mt c m x h hx;have e:(RF.calls pr (n+1)).m c m=RF.gL W.T (RF.calls pr n) g:=by
    funext vs S
    show (match pr.mt c m with | some g=>RF.gL pr.T (RF.calls pr n) g vs S | none=>.bad)=_;unfold RF.Prog.mt;rw[h1,Option.bind_some,h2,G.T]
   rw[e];refine⟨f,fd,g.ps,v8 h3 h2 h4 ih,λds S hl=>?_,h5,h6,h7,h8⟩;unfold RF.gL;rw[if_neg hl]
end
end L2
namespace L2
open PySem PySem.Spec PyProof.Rows
open RF (D O ae Tab)
theorem B7 {P:Program}{w:World}{K:Fg}{mg mb:Str->Option Value}{CX:kL}{k:Nat}{fa a:Addr}{fd:FuncData}{x:Str}{sp:Sp}{s₁:Sh}{vs:List Value}{ns:List Int}(Ps:List Addr)
 (KX:K.In s₁.heap) (hns:s₁.heap.Ns mainGlobals mg) (hb:s₁.heap.Ns builtinsNs mb) (hbb:∀x:Str,x ≠ "__name__"->mb x=bootBuiltins x) (hlim:s₁.heap.NoLimit) (hg:s₁.gens = #[]) (hBm:qD mg s₁.heap) (Nj:∀P∈Ps,∃c,W.CodeHd s₁.heap c P/\s₁.heap.get? P=some (W.tabObj #[])) (hKP:∀P∈Ps,K.lookup P=none)
 (ha:s₁.heap.get? a=some { cls:=.type "list",data:=.seq vs.toArray }) (hi:IntsAre vs ns) (hl:ns.length<=sizeLine) (hr:cO k callerA)
 (F:∀base:Heap,K.In base->base.Ns mainGlobals mg->qD mg base->dE P w K mg base CX k fa fd [x] sp) (OE:∀(s:Sh) (u:Value),BindsTo s fd ⟨[u],[]⟩ [(x,u)])
 (uU:∀H:Hp,(∀P∈Ps,H P=some (.gq #[]))->md K H a (ns.map V.int)->sp [.ref a] H (λv _=>v = .bl true) λ_ _ _=>False)
 (hCX:∀H e s',CX [] H s₁ (λ_ _ _=>False) e s'->False):
 codeAny (model P w) callerA (.call (.ref fa) ⟨[.ref a],[]⟩) (λr s'=>r = .ok (.ret (.bool true))/\OldK s₁.heap s'.heap/\s'.os=s₁.os/\AllBare s'.gens) s₁:=by
 have z7:∀P∈Ps,s₁.heap.get? P=some (W.tabObj #[]):=λP hP=>let ⟨_,_,e⟩:=Nj P hP;e
 have rv:=um hi;have lenV:=hi.length;have core:∀H:Hp,NT Ps H->(∀P∈Ps,H P=some (.gq #[]))->md K H a (ns.map V.int)->aT P w H s₁.heap->(∀b,H b≠none->b=a\/b∈Ps)->(H a≠none->K.lookup a=none) ->
  codeAny (model P w) callerA (.call (.ref fa) ⟨[.ref a],[]⟩) (λr s'=>r = .ok (.ret (.bool true))/\OldK s₁.heap s'.heap/\s'.os=s₁.os/\AllBare s'.gens) s₁:=by
  intro H hO hP hS aq hA hK;have base_of:∀{b:Addr} {o:Obj},s₁.heap.get? b=some o->H b=none->(kX s₁.heap H).get? b=some o:=λe n=>EH e n;have fN:∀{b:Addr} {o:Obj},s₁.heap.get? b=some o->(∀us n,o.data ≠ .seq us n)->(∀us,o.data ≠ .fields us)->H b=none:=λ{b o} e d1 d2=>by
   cases q:H b with
   | none=>rfl
   | some u=>
    rcases hA b (by rw[q];simp) with z | z
    .rw[z,ha] at e;cases e;exact absurd rfl (d1 _ _)
    .rw[z7 b z] at e;cases e;exact absurd rfl (d2 _)
  have nsK:∀{b:Addr} {m:Str->Option Value},s₁.heap.Ns b m->(kX s₁.heap H).Ns b m:=λ{b m} ⟨o,es,ep,e,d,r⟩=>⟨o,es,ep,base_of e (fN e (λ_ _ z=>by rw[d] at z;cases z) λ_ z=>by rw[d] at z;cases z),d,r⟩;have hKb:K.In (kX s₁.heap H):=λb o e=>base_of (KX b o e) (by
   cases q:H b with
   | none=>rfl
   | some u=>
    rcases hA b (by rw[q];simp) with z | z
    .subst z;rw[hK (by rw[q];simp)] at e;cases e
    .rw[hKP b z] at e;cases e)
  have hBb:qD mg (kX s₁.heap H):=by obtain⟨bm,ob,b1,b2,b3,b4,b5,b6,b7⟩:=hBm;exact⟨bm,ob,b1,b2,b3,base_of b4 (fN b4 (λ_ _ z=>by rw[b7] at z;cases z) λ_ z=>by rw[b7] at z;cases z),b5,b6,b7⟩
  have hM:Mod K mg (kX s₁.heap H):=⟨hKb,nsK hns,⟨mb,nsK hb,hbb⟩,let ⟨mc,h1,h2⟩:=hlim;⟨mc,nsK h1,h2⟩⟩;have e0:qA P w K mg (kX s₁.heap H) callerA [] s₁ H:=⟨rfl,hM,λb o e=>HQ e,Nat.le_of_eq (Df _ _),trivial,λb hb=>absurd (show b∈([]:List Addr) from hb) (by simp),aq,.of_eq hg⟩;refine codeAny_mono ((F _ hKb (nsK hns) hBb).run callerA [] s₁ H ⟨[.ref a],[]⟩ [.ref a] [.ref a] _ _ hr e0 (OE s₁ (.ref a)) (.cons rfl .nil) (uU H hP hS)) λr s' h=>?_;cases r with
  | error e=>exact(hCX H e s' h).elim
  | ok fl=>
   cases fl with
   | next=>exact False.elim h
   | brk=>exact False.elim h
   | cont=>exact False.elim h
   | ret u=>
    obtain⟨v,H',os,bare,un,Nk,r',q⟩:=h;have q':v = .bl true:=q;subst q';obtain rfl:u=Value.bool true:=r';refine⟨rfl,⟨λb o e=>?_,λb o e=>un.there b o e (by simp)⟩,os,bare⟩;cases q:H b with
    | none=>exact .inl (un.keep b o e q (λz=>absurd (show b∈([]:List Addr) from z) (by simp)) (by simp))
    | some u=>
     rcases hO b with z | ⟨ob,xs,z⟩|⟨hb,z⟩
     .rw[q] at z;cases z
     .have z2:=un.c6 b ob _ z;obtain⟨e1,_⟩:=aq b _ z;obtain⟨e2,_⟩:=Nk b _ z2;rw[e] at e1;cases e1;exact .inl e2
     .obtain⟨more,z2⟩:=un.jt b _ z;have e2:s'.heap.get? b=some { cls:=.none,data:=.fields (#[]++more) }:=Nk b _ z2;obtain⟨c,cd,eP⟩:=Nj b hb;rw[eP] at e;cases e;exact .inr (.inl ⟨(cd.tab eP).isCodeTable,rfl,#[],more,rfl,e2⟩)
 have aP:a∉Ps:=λz=>by have:=z7 a z;rw[ha] at this;cases this
 cases hk:K.lookup a with
 | some o=>
  have e:=KX a o hk;rw[ha] at e;cases e;refine core (λb=>if b∈Ps then some (.gq #[]) else none) (λb=>?_) (λb hb=>if_pos hb) (.inr ⟨_,vs.toArray,_,hk,rfl,rfl,rfl,by rw[List.size_toArray,lenV];exact hl,by simpa using rv⟩) (λb u z=>?_) (λb z=>?_) λz=>absurd (if_neg aP) z
  .by_cases hb:b∈Ps
   .exact .inr (.inr ⟨hb,if_pos hb⟩)
   .exact .inl (if_neg hb)
  .by_cases hb:b∈Ps
   .have z':=(if_pos hb).symm.trans z;cases z';exact z7 b hb
   .have z':=(if_neg hb).symm.trans z;cases z'
  .by_cases hb:b∈Ps
   .exact .inr hb
   .exact absurd (if_neg hb) z
 | none=>
  refine core (λb=>if b∈Ps then some (.gq #[]) else if b=a then some (.bR { cls:=.type "list",data:=.seq vs.toArray } (.lst (ns.map V.int))) else none) (λb=>?_) (λb hb=>if_pos hb)
   (.inl ⟨{ cls:=.type "list",data:=.seq vs.toArray },(if_neg aP).trans (if_pos rfl)⟩) (λb u z=>?_) (λb z=>?_) λ_=>hk
  .by_cases hb:b∈Ps
   .exact .inr (.inr ⟨hb,if_pos hb⟩)
   .by_cases oy:b=a
    .exact .inr (.inl ⟨_,_,(if_neg hb).trans (if_pos oy)⟩)
    .exact .inl ((if_neg hb).trans (if_neg oy))
  .by_cases hb:b∈Ps
   .have z':=(if_pos hb).symm.trans z;cases z';exact z7 b hb
   .by_cases oy:b=a
    .have z':=((if_neg hb).trans (if_pos oy)).symm.trans z;cases z';subst oy;exact⟨ha,by rw[List.length_map];exact hl,vs,_,rv,ha⟩
    .have z':=((if_neg hb).trans (if_neg oy)).symm.trans z;cases z'
  .by_cases hb:b∈Ps
   .exact .inr hb
   .by_cases oy:b=a
    .exact .inl oy
    .exact absurd ((if_neg hb).trans (if_neg oy)) z
theorem Gd {l:W.OpenLaw}{n k:Nat}{q:Program}{loose:List Str}{XP:(Str->Option Value)->Heap->Prop}{YP:World->Heap->Prop}{d:DefRec}{K:Params->Fg}{CX:World->kL}{sp:World->Sp}{x:Str}(Ps:List Addr)
 (hn:l.most=some n) (hn2:n<=sizeLine) (DT:d.params.defaults=[]) (hr:cO k callerA) (hY:∀(w:World) (h:Heap),YP w h->(K w.params).In h)
 (z7:∀(w:World) (h:Heap),YP w h->(K w.params).In h->∀P∈Ps,∃c,W.CodeHd h c P/\h.get? P=some (W.tabObj #[])) (hKP:∀(w:World),∀P∈Ps,(K w.params).lookup P=none)
 (F:∀(w:World) (mg:Str->Option Value) (fa:Addr) (h:Heap),(K w.params).In h->h.Ns mainGlobals mg->mg d.name=some (.ref fa) ->
   ∃fd:FuncData,(∀(s:Sh) (u:Value),BindsTo s fd ⟨[u],[]⟩ [(x,u)]) /\
    ∀base:Heap,(K w.params).In base->base.Ns mainGlobals mg->qD mg base->dE l.prog w (K w.params) mg base (CX w) k fa fd [x] (sp w))
 (uU:∀(w:World) (H:Hp) (a:Addr) (ns:List Int),ns.length<=n->(∀P∈Ps,H P=some (.gq #[]))->md (K w.params) H a (ns.map V.int)->sp w [.ref a] H (λv _=>v = .bl true) λ_ _ _=>False)
 (hCX:∀(w:World) (H:Hp) (s:Sh) (e:Value) (s':Sh),CX w [] H s (λ_ _ _=>False) e s'->False):
 W.WalkO q loose XP YP l.row.toRowW d [] (λf vs=>PySem.call f vs):=by
 refine Att.yo hn DT λw s₀ s₁ mg mb fa o pm cd doc a vs ns G Y ho hd sI DU Gu hints hlen hg=>?_;have KX:=hY w _ Y;obtain⟨fd,hb,hF⟩:=F w mg fa _ KX G.T.g DU;have hBm:qD mg s₁.heap:=by obtain⟨bm,ob,b1,b2,b3,b4,b5,b6⟩:=G.T.bmain;refine⟨bm,ob,b1,b2,λz=>?_,b3,b4,b5,b6⟩;obtain⟨o,es,ep,e,d,_⟩:=G.T.g;rw[z,e] at b3;cases b3;rw[d] at b6;cases b6
 exact B7 Ps KX G.T.g G.T.b G.T.builtins G.T.nolimit hg hBm (z7 w _ Y KX) (hKP w) Gu hints (Nat.le_trans hlen hn2) hr hF hb (λH hP hS=>uU w H a ns hlen hP hS) λH e s'=>hCX w H s₁ e s'
theorem LX {K:Fg}{W:bw}{f:List D->ae->RF.R D}{H:Hp}{a:Addr}{ns:List Int}{S':ae}(nd:W.T.cJ.Nodup)(ht:∀p∈W.tb,H p.1=some (.gq #[]))(h:f [.ref 0] [.cq (ns.map D.int)] = .ok (.bl true) S')(r:md K H a (ns.map V.int)):nR K W f 1 [.ref a] H (λv _=>v = .bl true) λ_ _ _=>False:=by
 have relI:∀(M:List Addr) (l:List Int),ay M H (l.map D.int) (l.map V.int):=λM l=>by
  induction l with
  | nil=>exact .nil
  | cons x xs ih=>exact .cons (.int x) ih
 refine⟨rfl,[a],[.cq (ns.map D.int)],[.ref 0],⟨rfl,nd,λi j b h1 h2 r1 _=>?_,λi o b h1 h2=>?_,λp hp=>⟨#[],ht p hp,trivial,λpos cv h=>by cases h⟩⟩,.cons (.ref rfl) .nil,?_⟩
 .cases i with
  | zero=>simp[fL] at r1
  | succ i=>simp at h1
 .cases i with
  | zero=>simp at h1 h2;subst h1 h2;exact⟨_,r,relI _ _⟩
  | succ i=>simp at h1
 .rw[h];intro M' H' v _ _ rv;cases rv;rfl
def ki (g:RF.Fn):Bool:=(g.sc.kind == .function) && !g.sc.isCoroutine && !g.sc.isGenerator&&RF.j4 g.N&&decide (g.N.take g.ps.length=g.ps)&&g.ps.all (λx=>g.sc.names.lookup x==some .local||g.sc.names.lookup x==some .cell)&&g.sc.names.all (λp=>p.2 != .free)
theorem qN {g:RF.Fn}(h:ki g=true):gm g.N g.ps g.sc:=by
 unfold ki at h;simp only[Bool.and_eq_true,List.all_eq_true,decide_eq_true_eq,Bool.or_eq_true] at h;obtain⟨⟨⟨⟨⟨⟨h1,h2⟩,h3⟩,h4⟩,h5⟩,h6⟩,h7⟩:=h;refine⟨eq_of_beq h1,by simpa using h2,by simpa using h3,ml h4,h5,λx hx=>?_,λy hy=>?_⟩
 .rcases h6 x hx with z | z
  .exact .inl (eq_of_beq z)
  .exact .inr (eq_of_beq z)
 .simpa using h7 y hy
def AK (K:Fg)(mg:Str->Option Value)(pr:RF.Prog)(x:Str)(i:Nat):Prop:=∃st g f fd,pr.fs[i]?=some st/\RF.fnOf st=some g/\fV K x x st f fd/\gm g.N g.ps g.sc/\mg x=some (.ref f)/\Binds K fd g.ps []
theorem za {K:Fg}{mg:Str->Option Value}{pr:RF.Prog}{x:Str}{i:Nat}{st:Stmt}{g:RF.Fn}{f:Addr}{fd:FuncData}(F:fV K x x st f fd)(h1:pr.fs[i]?=some st)(h2:RF.fnOf st=some g)(h3:ki g=true)(h4:mg x=some (.ref f))(h5:Binds K fd g.ps []):AK K mg pr x i:=
 ⟨st,g,f,fd,h1,h2,F,qN h3,h4,h5⟩
def A5 (K:Fg)(W:bw)(pr:RF.Prog)(c m:Nat)(x:Str):Prop:=∃st g f fd q,(pr.ms.find? λy=>y.1==c&&y.2.1==m)=some (c,m,st)/\RF.fnOf st=some g/\fV K x q st f fd/\gm g.N g.ps g.sc/\Meth K (W.c c) x f/\jS K W.T c x fd g.ps/\(x = "__init__"->Mk K (W.c c) f)/\gH K (W.c c)
theorem lz {K:Fg}{W:bw}{pr:RF.Prog}{c m:Nat}{x q:Str}{st:Stmt}{g:RF.Fn}{f:Addr}{fd:FuncData}(F:fV K x q st f fd)(h1:(pr.ms.find? λy=>y.1==c&&y.2.1==m)=some (c,m,st))(h2:RF.fnOf st=some g)(h3:ki g=true)(h4:Meth K (W.c c) x f)(h5:jS K W.T c x fd g.ps)(h6:x = "__init__"->Mk K (W.c c) f)(h7:gH K (W.c c)):A5 K W pr c m x:=
 ⟨st,g,f,fd,q,h1,h2,F,qN h3,h4,h5,h6,h7⟩
theorem lookup_mem {l:List (Str×D)}{x:Str}{d:D}(h:l.lookup x=some d):∃p,p∈l/\x=p.1/\d=p.2:=⟨(x,d),PySem.mem_of_lookup h,rfl,rfl⟩
def vv (K:Fg)(T:Tab)(tb:List (Addr×Str))(f:List D->ae->RF.R D):Sp:=λvs H Q E=>vs.length=1/\∀W:bw,W.T=T->W.tb=tb->nR K W f 1 vs H Q E
theorem MS {P:Program}{w:World}{K:Fg}{mg:Str->Option Value}{base:Heap}{W:bw}{pr:RF.Prog}{n i:Nat}{st:Stmt}{g:RF.Fn}{f:Addr}{fd:FuncData}{x:Str}(G:Bv P w K mg base W pr)(F:fV K x x st f fd)(h1:pr.fs[i]?=some st)(h2:RF.fnOf st=some g)(h3:ki g=true)(h4:g.ps=[Str.ofString "_law_script"]):
 dE P w K mg base (lH P w) (4*n+4) f fd ["_law_script"] (vv K pr.T W.tb ((RF.calls pr (n+1)).f i)):=by
 have e:(RF.calls pr (n+1)).f i=RF.gL W.T (RF.calls pr n) g:=by
  funext vs S
  show (match pr.fn i with | some g=>RF.gL pr.T (RF.calls pr n) g vs S | none=>.bad)=_;unfold RF.Prog.fn;rw[h1,Option.bind_some,h2,G.T]
 rw[e];have R:=v8 F h2 (qN h3) (B3 G n);rw[h4] at R;exact R.imp λvs H Q E z=>z.2 W G.T rfl
end L2
namespace L2
open PySem
end L2
namespace Q41
open PySem
noncomputable def T:RF.Tab where
 cons:=[("VALUE_MOST",.int 999),("SIDE_MOST",.int 7),("SIGNS",.str "abcdefghijklmnopqrstuvwxyz0123456789"),("PART_LONGEST",.int 4),("NAME_LONGEST",.int 5),("ROOM_MOST",.int 9),("WAIT_LEAST",.int 1),("WAIT_MOST",.int 20)]
 cJ:="__init__" :: "__len__" :: "answered" :: "append" :: "ask" :: "asked" :: "askers" :: "beside" :: "come" :: "count" :: "end" :: "ended" :: "ends" :: "extend" :: "found" :: "get" :: "got" :: "heard" :: "held" :: "insert" :: "keeps" :: "kept" :: "learned" :: "noes" :: "number" :: "patience" :: "pop" :: "put" :: "remove" :: "room" :: "rows" :: "sides" :: "since" :: "store" :: "teach" :: "things" :: "told" :: "told_no" :: "told_thing" :: "toward" :: "waiting" :: "waits" :: "way" :: []
 eg:="is_whole" :: "is_within" :: "is_value" :: "is_side" :: "is_tick" :: "is_sides" :: "need_within" :: "need_value" :: "need_tick" :: "need_sides" :: "is_part" :: "is_name" :: "is_beginning" :: "need_name" :: "need_beginning" :: "is_letter" :: "_law_cell" :: "_law_drawn" :: "_law_roll" :: "_law_rounds" :: "_law_head" :: "_law_any_name" :: "_law_some_sides" :: "_law_thing_comes" :: "_law_noes_come" :: "law" :: []
 gf:="Keeps" :: "Table" :: "Wait" :: "House" :: []
 BG:="BadName" :: "BadSides" :: "BadNumber" :: "BadLetter" :: "NoWay" :: []
 meths:=(0,0)::(0,27)::(0,16)::(0,30)::(0,1)::(1,0)::(1,27)::(1,42)::(1,31)::(1,30)::(1,1)::(2,0)::(3,0)::(3,4)::(3,8)::(3,34)::(3,10)::(3,41)::(3,20)::(3,39)::(3,14)::(3,2)::(3,38)::(3,37)::(3,11)::(3,36)::[]
 kwo:=[(3,[("room",.int 4),("wait",.int 6)])]
 pay:=[]
noncomputable def P:RF.Prog where
 T:=T
 fs:=[top 12,top 13,top 14,top 15,top 16,top 17,top 18,top 19,top 21,top 22,top 27,top 28,top 29,top 30,top 31,top 40,top 44,top 45,top 46,top 47,top 48,top 49,top 50,top 51,top 52,top 53]
 ms:=(0,0,aD (top 34) 0)::(0,27,aD (top 34) 1)::(0,16,aD (top 34) 2)::(0,30,aD (top 34) 4)::(0,1,aD (top 34) 5)::(1,0,aD (top 36) 0)::(1,27,aD (top 36) 1)::(1,42,aD (top 36) 3)::(1,31,aD (top 36) 4)::(1,30,aD (top 36) 5)::(1,1,aD (top 36) 8)::(2,0,aD (top 41) 0)::(3,0,aD (top 42) 0)::(3,4,aD (top 42) 1)::(3,8,aD (top 42) 2)::(3,34,aD (top 42) 6)::(3,10,aD (top 42) 8)::(3,41,aD (top 42) 9)::(3,20,aD (top 42) 10)::(3,39,aD (top 42) 14)::(3,14,aD (top 42) 15)::(3,2,aD (top 42) 16)::(3,38,aD (top 42) 17)::(3,37,aD (top 42) 18)::(3,11,aD (top 42) 19)::(3,36,aD (top 42) 20)::[]
end Q41
namespace RF
open PySem
noncomputable def Wp {α:Type}(r:R α)(Q:α->ae->Prop):Prop:=match r with
 | .ok a S=>Q a S
 | _=>False
theorem G5 {α:Type}{a:α}{S:ae}{Q:α->ae->Prop}(h:Q a S):Wp (.ok a S) Q:=h
theorem wp_bind {α β:Type}{r:R α}{f:α->ae->R β}{Q:β->ae->Prop}(h:Wp r λa S=>Wp (f a S) Q):Wp (r.bind f) Q:=by
 cases r with
 | ok a S=>exact h
 | bad=>exact h.elim
theorem wp_mono {α:Type}{r:R α}{Q Q':α->ae->Prop}(h:Wp r Q)(m:∀a S,Q a S->Q' a S):Wp r Q':=by
 cases r with
 | ok a S=>exact m _ _ h
 | bad=>exact h.elim
theorem vA {α:Type}{r:R α}{Q:α->ae->Prop}(h:Wp r Q):∃a S,r = .ok a S/\Q a S:=by
 cases r with
 | ok a S=>exact⟨a,S,rfl,h⟩
 | bad=>exact h.elim
theorem ak {α:Type}{r:R α}{a:α}{S:ae}{Q:α->ae->Prop}(e:r = .ok a S)(h:Q a S):Wp r Q:=by rw[e];exact h
theorem cx {α:Type}{b:Bool}{r:R α}{Q:α->ae->Prop}(hb:b=true)(h:Wp r Q):Wp (aE b r) Q:=by rw[hb];exact h
structure En where
 nx:Env->ae->Prop
 rt:D->ae->Prop
 bk:Env->ae->Prop:=λ_ _=>False
 ct:Env->ae->Prop:=λ_ _=>False
noncomputable def Wf (r:F)(Q:En):Prop:=match r with
 | .nx ρ S=>Q.nx ρ S
 | .rt d S=>Q.rt d S
 | .bk ρ S=>Q.bk ρ S
 | .ct ρ S=>Q.ct ρ S
 | _=>False
theorem dJ {α:Type}{r:R α}{f:α->ae->F}{Q:En}(h:Wp r λa S=>Wf (f a S) Q):Wf (dY r f) Q:=by
 cases r with
 | ok a S=>exact h
 | bad=>exact h.elim
theorem HZ {r:F}{k:CS}{Q:En}(h:Wf r { Q with nx:=λρ S=>Wf (k ρ S) Q }):Wf (r.then k) Q:=by
 cases r with
 | nx ρ S=>exact h
 | rt d S=>exact h
 | bk ρ S=>exact h
 | ct ρ S=>exact h
 | bad=>exact h.elim
theorem aK {r:F}{Q:D->ae->Prop}(h:Wf r { nx:=λ_ S=>Q .aj S,rt:=Q }):Wp (bc r) Q:=by
 cases r with
 | nx ρ S=>exact h
 | rt d S=>exact h
 | bk ρ S=>exact h.elim
 | ct ρ S=>exact h.elim
 | bad=>exact h.elim
theorem jN {r:F}{Q Q':En}(h:Wf r Q)(h1:∀ρ S,Q.nx ρ S->Q'.nx ρ S)(h2:∀d S,Q.rt d S->Q'.rt d S)(h3:∀ρ S,Q.bk ρ S->Q'.bk ρ S:=by intros;assumption)(h4:∀ρ S,Q.ct ρ S->Q'.ct ρ S:=by intros;assumption):Wf r Q':=by
 cases r with
 | nx ρ S=>exact h1 _ _ h
 | rt d S=>exact h2 _ _ h
 | bk ρ S=>exact h3 _ _ h
 | ct ρ S=>exact h4 _ _ h
 | bad=>exact h.elim
theorem lI {chk:ae->Bool}{is:List Nat}{one:Bool}{b:CS}{Q:En}{items:List D}(Inv:Nat->Env->ae->Prop){ρ:Env}{S:ae}(h0:Inv 0 ρ S)(hc:∀i ρ S,i<=items.length->Inv i ρ S->chk S=true)
 (hs:∀i x ρ S,items[i]?=some x->Inv i ρ S->∃ρ1,pZ is one x ρ=some ρ1/\Wf (b ρ1 S) { nx:=Inv (i+1),ct:=Inv (i+1),bk:=Q.nx,rt:=Q.rt }) (hd:∀ρ S,Inv items.length ρ S->Q.nx ρ S):Wf (ee chk is one b items ρ S) Q:=by
 have go:∀(l:List D) (i:Nat) (ρ:Env) (S:ae),items.drop i=l->i<=items.length->Inv i ρ S->Wf (ee chk is one b l ρ S) Q:=by
  intro l
  induction l with
  | nil=>
   intro i ρ S hl hi h;have:i=items.length:=by have:=congrArg List.length hl;simp at this;omega
   subst this;unfold ee;rw[if_pos (hc _ _ _ (Nat.le_refl _) h)];exact hd _ _ h
  | cons x xs ih=>
   intro i ρ S hl hi h;have hx:items[i]?=some x:=by have:=congrArg (λl=>l[0]?) hl;simpa using this
   have eR:i<items.length:=(List.getElem?_eq_some_iff.mp hx).1;have hr:items.drop (i+1)=xs:=by have:=congrArg List.tail hl;simpa using this
   unfold ee;rw[if_pos (hc _ _ _ hi h)];obtain⟨ρ1,e,w⟩:=hs i x ρ S hx h;rw[e];show Wf (Ha (b ρ1 S) (ee chk is one b xs)) Q;cases ev:b ρ1 S with
   | nx ρ2 S2=>rw[ev] at w;exact ih (i+1) ρ2 S2 hr eR w
   | ct ρ2 S2=>rw[ev] at w;exact ih (i+1) ρ2 S2 hr eR w
   | bk ρ2 S2=>rw[ev] at w;exact w
   | rt d S2=>rw[ev] at w;exact w
   | bad=>rw[ev] at w;exact w.elim
 exact go items 0 ρ S rfl (Nat.zero_le _) h0
theorem yV {chk:ae->Bool}{is:List Nat}{one:Bool}{t:C Bool}{e:C D}{ρ:Env}{items:List D}{Q:List D->ae->Prop}(Inv:Nat->List D->ae->Prop){S:ae}(h0:Inv 0 [] S)(hc:∀i ys S,i<=items.length->Inv i ys S->chk S=true)
 (hs:∀i x ys S,items[i]?=some x->Inv i ys S->∃ρ1,pZ is one x ρ=some ρ1/\Wp (t ρ1 S) λb S1=>if b=true then Wp (bL e ys ρ1 S1) λys' S2=>Inv (i+1) ys' S2 else Inv (i+1) ys S1) (hd:∀ys S,Inv items.length ys S->Q ys S):Wp (bB chk is one t (bL e) ρ items [] S) Q:=by
 have go:∀(l:List D) (i:Nat) (ys:List D) (S:ae),items.drop i=l->i<=items.length->Inv i ys S->Wp (bB chk is one t (bL e) ρ l ys S) Q:=by
  intro l
  induction l with
  | nil=>
   intro i ys S hl hi h;have:i=items.length:=by have:=congrArg List.length hl;simp at this;omega
   subst this;unfold bB;rw[if_pos (hc _ _ _ (Nat.le_refl _) h)];exact hd _ _ h
  | cons x xs ih=>
   intro i ys S hl hi h;have hx:items[i]?=some x:=by have:=congrArg (λl=>l[0]?) hl;simpa using this
   have eR:i<items.length:=(List.getElem?_eq_some_iff.mp hx).1;have hr:items.drop (i+1)=xs:=by have:=congrArg List.tail hl;simpa using this
   unfold bB;rw[if_pos (hc _ _ _ hi h)];obtain⟨ρ1,e1,w⟩:=hs i x ys S hx h;simp only[e1];refine wp_bind (wp_mono w λb S1 w=>?_);cases b with
   | true=>rw[if_pos rfl] at w ⊢;exact wp_bind (wp_mono w λy S2 w=>ih (i+1) _ S2 hr eR w)
   | false=>rw[if_neg (by decide)] at w ⊢;exact ih (i+1) ys S1 hr eR w
 exact go items 0 [] S rfl (Nat.zero_le _) h0
@[irreducible] noncomputable def ag (P:Prog)(n:Nat):Calls:=calls P n
theorem ar (P:Prog)(n:Nat):ag P n=calls P n:=by unfold ag;rfl
end RF
namespace Q41
open RF PySem
abbrev rh (n:Nat)(s:Src)(is:List Nat)(one:Bool)(t:C Bool)(e:C D):C (List D):=ie n s is one t (bL e) []
abbrev cK (n:Nat)(s:Src)(is:List Nat)(one:Bool)(t:C Bool)(e:C D):C D:=λρ S=>(ie n s is one t (bL e) [] ρ S).bind λys S1=>fI (.lst ys) S1
def Bt (cl:Calls):CS:=(ah [(retS (gR (lN .int (aa 0)) (FR (lN .bool (aa 0)))))])
theorem AA (n:Nat)(v0:D)(S:ae):(ag P (n+1)).f 0 [v0] S=bc (Bt (ag P n) [some v0] S):=by simp only[ar];rfl
def pV (cl:Calls):CS:=(ah [(retS (gR (ao (cl.f 0) [(aa 0)]) (iy .LtE .LtE (aa 1) (aa 0) (aa 2))))])
theorem yH (n:Nat)(v0 v1 v2:D)(S:ae):(ag P (n+1)).f 1 [v0,v1,v2] S=bc (pV (ag P n) [some v0,some v1,some v2] S):=by simp only[ar];rfl
def rV (cl:Calls):CS:=(ah [(retS (ao (cl.f 1) [(aa 0),(cE (.int 0)),(cE (.int 999))]))])
theorem AW (n:Nat)(v0:D)(S:ae):(ag P (n+1)).f 2 [v0] S=bc (rV (ag P n) [some v0] S):=by simp only[ar];rfl
def ub (cl:Calls):CS:=(ah [(retS (ao (cl.f 1) [(aa 0),(cE (.int 0)),(cE (.int 7))]))])
theorem CV (n:Nat)(v0:D)(S:ae):(ag P (n+1)).f 3 [v0] S=bc (ub (ag P n) [some v0] S):=by simp only[ar];rfl
def t8 (cl:Calls):CS:=(ah [(retS (gR (ao (cl.f 0) [(aa 0)]) (aB .GtE (aa 0) (cE (.int 0)))))])
theorem BN (n:Nat)(v0:D)(S:ae):(ag P (n+1)).f 4 [v0] S=bc (t8 (ag P n) [some v0] S):=by simp only[ar];rfl
def rJ (cl:Calls):CS:=(ah [(bA (df (cw (lN .list (aa 0)))) (ah [(retS (cE (.bl false)))]) (ah [])),(bA (df (cw (sZ (rh 1 (.dyn (aa 0)) [0] true always (ao (cl.f 3) [(aa 0)]))))) (ah [(retS (cE (.bl false)))]) (ah [])),(retS (aB .Eq (pB (aa 0)) (cX T.aJ cl.m (some 1) (aa 0))))])
theorem Bh (n:Nat)(v0:D)(S:ae):(ag P (n+1)).f 5 [v0] S=bc (rJ (ag P n) [some v0] S):=by simp only[ar];rfl
def mM (cl:Calls):CS:=(ah [(bA (df (cw (ao (cl.f 1) [(aa 0),(aa 1),(aa 2)]))) (ah [cf]) (ah []))])
theorem ve (n:Nat)(v0 v1 v2:D)(S:ae):(ag P (n+1)).f 6 [v0,v1,v2] S=bc (mM (ag P n) [some v0,some v1,some v2] S):=by simp only[ar];rfl
def om (cl:Calls):CS:=(ah [(bh (ao (cl.f 6) [(aa 0),(cE (.int 0)),(cE (.int 999))]))])
theorem wU (n:Nat)(v0:D)(S:ae):(ag P (n+1)).f 7 [v0] S=bc (om (ag P n) [some v0] S):=by simp only[ar];rfl
def pF (cl:Calls):CS:=(ah [(bA (df (cw (ao (cl.f 4) [(aa 0)]))) (ah [cf]) (ah []))])
theorem yE (n:Nat)(v0:D)(S:ae):(ag P (n+1)).f 8 [v0] S=bc (pF (ag P n) [some v0] S):=by simp only[ar];rfl
def ot (cl:Calls):CS:=(ah [(bA (df (cw (ao (cl.f 5) [(aa 0)]))) (ah [cf]) (ah []))])
theorem vW (n:Nat)(v0:D)(S:ae):(ag P (n+1)).f 9 [v0] S=bc (ot (ag P n) [some v0] S):=by simp only[ar];rfl
def B5 (cl:Calls):CS:=(ah [(bA (jf (df (cw (lN .str (aa 0)))) (df (av (iy .LtE .LtE (cE (.int 1)) (cX T.aJ cl.m (some 1) (aa 0)) (cE (.int 4)))))) (ah [(retS (cE (.bl false)))]) (ah [])),(retS (sZ (rh 1 (.dyn (aa 0)) [0] true always (aB .In (aa 0) (cE (.str "abcdefghijklmnopqrstuvwxyz0123456789"))))))])
theorem B1 (n:Nat)(v0:D)(S:ae):(ag P (n+1)).f 10 [v0] S=bc (B5 (ag P n) [some v0] S):=by simp only[ar];rfl
def uM (cl:Calls):CS:=(ah [(bA (jf (df (cw (lN .tuple (aa 0)))) (df (av (iy .LtE .LtE (cE (.int 1)) (cX T.aJ cl.m (some 1) (aa 0)) (cE (.int 5)))))) (ah [(retS (cE (.bl false)))]) (ah [])),(retS (sZ (rh 1 (.dyn (aa 0)) [0] true always (ao (cl.f 10) [(aa 0)]))))])
theorem uJ (n:Nat)(v0:D)(S:ae):(ag P (n+1)).f 11 [v0] S=bc (uM (ag P n) [some v0] S):=by simp only[ar];rfl
def lx (cl:Calls):CS:=(ah [(retS (G4 (ao (cl.f 11) [(aa 0)]) (gR (lN .tuple (aa 0)) (aB .Eq (cX T.aJ cl.m (some 1) (aa 0)) (cE (.int 0))))))])
theorem tq (n:Nat)(v0:D)(S:ae):(ag P (n+1)).f 12 [v0] S=bc (lx (ag P n) [some v0] S):=by simp only[ar];rfl
def pM (cl:Calls):CS:=(ah [(bA (df (cw (ao (cl.f 11) [(aa 0)]))) (ah [cf]) (ah []))])
theorem yw (n:Nat)(v0:D)(S:ae):(ag P (n+1)).f 13 [v0] S=bc (pM (ag P n) [some v0] S):=by simp only[ar];rfl
def kc (cl:Calls):CS:=(ah [(bA (df (cw (ao (cl.f 12) [(aa 0)]))) (ah [cf]) (ah []))])
theorem ql (n:Nat)(v0:D)(S:ae):(ag P (n+1)).f 14 [v0] S=bc (kc (ag P n) [some v0] S):=by simp only[ar];rfl
def k7 (cl:Calls):CS:=(ah [(bA (jf (df (cw (lN .tuple (aa 0)))) (jf (av (aB .Lt (cX T.aJ cl.m (some 1) (aa 0)) (cE (.int 2)))) (df (cw (ao (cl.f 11) [(bQ (aa 0) (cE (.int 1)))]))))) (ah [(retS (cE (.bl false)))]) (ah [])),(bA (av (aB .Eq (bQ (aa 0) (cE (.int 0))) (cE (.str "thing")))) (ah [(retS (gR (aB .Eq (cX T.aJ cl.m (some 1) (aa 0)) (cE (.int 4))) (gR (ao (cl.f 2) [(bQ (aa 0) (cE (.int 2)))]) (ao (cl.f 4) [(bQ (aa 0) (cE (.int 3)))]))))]) (ah [])),(retS (gR (aB .In (bQ (aa 0) (cE (.int 0))) (bp [(cE (.str "ask")),(cE (.str "no"))])) (aB .Eq (cX T.aJ cl.m (some 1) (aa 0)) (cE (.int 2)))))])
theorem pH (n:Nat)(v0:D)(S:ae):(ag P (n+1)).f 15 [v0] S=bc (k7 (ag P n) [some v0] S):=by simp only[ar];rfl
def rR (cl:Calls):CS:=(ah [(bA (av (aB .Eq (aa 0) (aR []))) (ah [(retS (bD .Mult (aa 1) (cE (.int 7919))))]) (ah [])),(retS (bD .Add (bQ (aa 0) (bD .Mod (aa 1) (cX T.aJ cl.m (some 1) (aa 0)))) (bD .Mult (bD .FloorDiv (aa 1) (cX T.aJ cl.m (some 1) (aa 0))) (cE (.int 104729)))))])
theorem Af (n:Nat)(v0 v1:D)(S:ae):(ag P (n+1)).f 16 [v0,v1] S=bc (rR (ag P n) [some v0,some v1] S):=by simp only[ar];rfl
def pX (cl:Calls):CS:=(ah [(bf 2 (bD .Mod (bD .Add (bD .Mult (aa 0) (cE (.int 6364136223846793005))) (bD .Mult (bD .Add (aa 1) (cE (.int 1))) (cE (.int 1442695040888963407)))) (cE (.int 340282366920938463463374607431768211507)))),(bf 2 (bD .Mod (bD .Mult (aa 2) (aa 2)) (cE (.int 340282366920938463463374607431768211297)))),(bf 2 (bD .Mult (bD .Mult (bD .Add (bD .Mod (aa 2) (cE (.int 18446744073709551557))) (cE (.int 1))) (bD .Add (bD .FloorDiv (aa 2) (cE (.int 18446744073709551557))) (cE (.int 1)))) (aa 2))),(retS (bD .Mod (aa 2) (cE (.int 340282366920938463463374607431768211507))))])
theorem yG (n:Nat)(v0 v1:D)(S:ae):(ag P (n+1)).f 17 [v0,v1] S=bc (pX (ag P n) [some v0,some v1,none] S):=by simp only[ar];rfl
def qZ (cl:Calls):CS:=(ah [(bA (av (aB .GtE (bQ (aa 0) (cE (.int 0))) (bD .Pow (cE (.int 10)) (cE (.int 18))))) (ah [(bf 2 (bD .Mod (bQ (aa 0) (cE (.int 0))) (aa 1))),(iw (aa 0) (cE (.int 0)) (bD .FloorDiv (bQ (aa 0) (cE (.int 0))) (aa 1))),(retS (aa 2))]) (ah [])),(iw (aa 0) (cE (.int 1)) (bD .Add (bQ (aa 0) (cE (.int 1))) (cE (.int 1)))),(retS (bD .Mod (bD .FloorDiv (ao (cl.f 17) [(bQ (aa 0) (cE (.int 0))),(bQ (aa 0) (cE (.int 1)))]) (cE (.int 8))) (aa 1)))])
theorem AM (n:Nat)(v0 v1:D)(S:ae):(ag P (n+1)).f 18 [v0,v1] S=bc (qZ (ag P n) [some v0,some v1,none] S):=by simp only[ar];rfl
def nY (cl:Calls):CS:=(ah [(retS (cK 1 (.range (ao (bV .max2) [(cE (.int 1)),(ao (bV .min2) [(aa 1),(cX T.aJ cl.m (some 1) (aa 0))])])) [0] true always (aR [(ao (cl.f 16) [(aa 1),(aa 0)]),(cE (.int 0))])))])
theorem xw (n:Nat)(v0 v1:D)(S:ae):(ag P (n+1)).f 19 [v0,v1] S=bc (nY (ag P n) [some v0,some v1] S):=by simp only[ar];rfl
def rB (cl:Calls):CS:=(ah [(bf 1 (aR [(cE (.str "a")),(cE (.str "b")),(cE (.str "c")),(cE (.str "x9")),(cE (.str "long"))])),(retS (sg (rh 1 (.range (ao (cl.f 18) [(aa 0),(cE (.int 5))])) [0] true always (bQ (aa 2) (bD .Mult (ao (cl.f 18) [(aa 1),(cE (.int 5))]) (ao (cl.f 18) [(aa 1),(cE (.int 2))]))))))])
theorem Bg (n:Nat)(v0:D)(S:ae):(ag P (n+1)).f 20 [v0] S=bc (rB (ag P n) [some v0,none] S):=by simp only[ar];rfl
def lG (cl:Calls):CS:=(ah [(retS (mG (av (aB .Eq (ao (cl.f 18) [(aa 0),(cE (.int 3))]) (cE (.int 0)))) (bp [(cE (.str "a"))]) (bD .Add (ao (cl.f 20) [(aa 0)]) (bp [(bQ (aR [(cE (.str "a")),(cE (.str "b"))]) (ao (cl.f 18) [(aa 0),(cE (.int 2))]))]))))])
theorem sO (n:Nat)(v0:D)(S:ae):(ag P (n+1)).f 21 [v0] S=bc (lG (ag P n) [some v0] S):=by simp only[ar];rfl
def j7 (cl:Calls):CS:=(ah [(bf 2 (aR [])),(gM (.dyn (aa 1)) [3] true (ah [(bA (av (aB .Eq (ao (cl.f 18) [(aa 0),(cE (.int 2))]) (cE (.int 0)))) (ah [(bh (az T.aJ cl.m (some 19) (some .insert) (aa 2) [(ao (cl.f 18) [(aa 0),(bD .Add (cX T.aJ cl.m (some 1) (aa 2)) (cE (.int 1)))]),(aa 3)]))]) (ah []))])),(retS (aa 2))])
theorem qH (n:Nat)(v0 v1:D)(S:ae):(ag P (n+1)).f 22 [v0,v1] S=bc (j7 (ag P n) [some v0,some v1,none,none] S):=by simp only[ar];rfl
def ju (cl:Calls):CS:=(ah [(ke [7,8] [(bp [(cE (.str "thing")),(aa 2),(cE (.int 7)),(cE (.int 3))]),(cK 1 (.dyn (aa 4)) [0] true (iH (df (cw (lN .tuple (aa 0)))) (av (aB .NotEq (aa 0) (aa 7)))) (aa 0))]),(bA (av (aB .NotEq (az T.aJ cl.m (some 8) none (aa 1) [(aa 6),(aa 7),(cE (.int 0))]) (cK 1 (.dyn (aa 8)) [0] true always (bp [(aa 0),(aa 8)])))) (ah [(retS (cE (.bl false)))]) (ah [])),(bA (av (aB .NotEq (cK 1 (.dyn (aa 5)) [0] true always (az T.aJ cl.m (some 10) none (aa 2) [(aa 0)])) (bD .Mult (aR [(bp [(cE (.int 7))])]) (cX T.aJ cl.m (some 1) (aa 5))))) (ah [(retS (cE (.bl false)))]) (ah [])),(bA (jf (av (aB .NotEq (az T.aJ cl.m (some 20) none (aa 1) []) (mG (av (aB .Gt (aa 3) (cE (.int 0)))) (aR [(bp [(aa 2),(cE (.int 7)),(cE (.int 3))])]) (aR [])))) (av (aB .NotEq (az T.aJ cl.m (some 8) none (aa 1) [(aa 6),(aa 7),(cE (.int 0))]) (aR [])))) (ah [(retS (cE (.bl false)))]) (ah [])),(retS (gR (aB .Eq (bQ (az T.aJ cl.m (some 4) none (aa 1) [(aa 2),(cE (.int 0))]) (cE (.int 1))) (aR [])) (aB .Eq (az T.aJ cl.m (some 10) none (aa 1) [(cX T.aJ cl.m (some 1) (aa 5))]) (bp [(cE (.int 7))]))))])
theorem pE (n:Nat)(v0 v1 v2 v3 v4 v5 v6:D)(S:ae):(ag P (n+1)).f 23 [v0,v1,v2,v3,v4,v5,v6] S=bc (ju (ag P n) [some v0,some v1,some v2,some v3,some v4,some v5,some v6,none,none] S):=by simp only[ar];rfl
def ku (cl:Calls):CS:=(ah [(gM (.dyn (j5 (aa 4) none (some (Bj (cE (.int 1)))))) [5] true (ah [(bA (jf (av (aB .NotEq (az T.aJ cl.m (some 8) none (aa 0) [(aa 5),(bp [(cE (.str "no")),(aa 1)]),(cE (.int 0))]) (aR []))) (av (aB .Eq (az T.aJ cl.m (some 41) none (aa 0) []) (aR [])))) (ah [(retS (cE (.bl false)))]) (ah []))])),(bf 6 (cK 1 (.dyn (aa 2)) [0] true (df (cw (lN .tuple (aa 0)))) (aa 0))),(bA (av (aB .NotEq (az T.aJ cl.m (some 8) none (aa 0) [(bQ (aa 4) (Bj (cE (.int 1)))),(bp [(cE (.str "no")),(aa 1)]),(cE (.int 0))]) (cK 1 (.dyn (aa 6)) [0] true always (bp [(aa 0),(bp [(cE (.str "no")),(aa 2)])])))) (ah [(retS (cE (.bl false)))]) (ah [])),(retS (gR (aB .Eq (cK 1 (.dyn (aa 3)) [0] true always (az T.aJ cl.m (some 10) none (aa 1) [(aa 0)])) (bD .Mult (aR [(bp [(cE .aj)])]) (cX T.aJ cl.m (some 1) (aa 3)))) (aB .Eq (az T.aJ cl.m (some 20) none (aa 0) []) (aR []))))])
theorem sF (n:Nat)(v0 v1 v2 v3 v4:D)(S:ae):(ag P (n+1)).f 24 [v0,v1,v2,v3,v4] S=bc (ku (ag P n) [some v0,some v1,some v2,some v3,some v4,none,none] S):=by simp only[ar];rfl
def AE (cl:Calls):CS:=(ah [(jG jb (ao (cl.f 19) [(aa 0),(cE (.int 4))]) 1 (ah [(ke [2,3,4] [(ao (cl.f 21) [(aa 1)]),(aR [(cE (.int 1)),(cE (.int 2)),(cE (.int 3)),(cE (.int 4))]),(ao (cl.f 18) [(aa 1),(cE (.int 4))])]),(bf 5 (ia (cl.m 3 0) 3 [(cE (.int 0)),(aa 3)] (T.dh 3) ["room","wait"] [(aa 4),(cE (.int 9))])),(bf 6 (bD .Add (ao (cl.f 22) [(aa 1),(aa 3)]) (aR [(cE (.int 5))]))),(bh (az T.aJ cl.m (some 34) none (aa 5) [(bp []),(aa 6)])),(ke [7,8,9] [(aR []),(aR []),(aR [])]),(gM (.range (bD .Add (cE (.int 1)) (ao (cl.f 18) [(aa 1),(cE (.int 6))]))) [10] true (ah [(bA (av (aB .Eq (ao (cl.f 18) [(aa 1),(cE (.int 2))]) (cE (.int 0)))) (ah [(tupS [11,12] (az T.aJ cl.m (some 4) none (aa 5) [(aa 2),(cE (.int 0))])),(bh (az T.aJ cl.m (some 3) (some .append) (aa 7) [(bp [(cE (.str "own")),(aa 11)])])),(bh (az T.aJ cl.m (some 3) (some .append) (aa 9) [(aa 11)]))]) (ah [(bf 13 (bQ (aa 3) (ao (cl.f 18) [(aa 1),(cE (.int 4))]))),(bf 12 (az T.aJ cl.m (some 8) none (aa 5) [(aa 13),(bp [(cE (.str "ask")),(aa 2)]),(cE (.int 0))])),(bf 7 (bD .Add (aa 7) (mG (av (aB .NotIn (aa 13) (aa 7))) (aR [(aa 13)]) (aR []))))])),(bA (av (aB .NotEq (cK 2 (.dyn (aa 12)) [0,1] false (av (aB .NotEq (aa 1) (bp [(cE (.str "ask")),(aa 4)]))) (aa 1)) (aR []))) (ah [(bf 7 (aR [])),nM]) (ah [])),(bf 8 (bD .Add (aa 8) (cK 2 (.dyn (aa 12)) [0,1] false always (aa 0))))])),(bA (av (aB .NotEq (cK 1 (.dyn (aa 8)) [0] true (jf (av (aB .Gt (az T.aJ cl.m (some 9) (some .count) (aa 9) [(aa 0)]) (cE (.int 1)))) (av (aB .NotIn (aa 0) (aa 7)))) (aa 0)) (aR []))) (ah [(retS (cE (.bl false)))]) (ah [])),(bA (iH (av (aB .NotEq (aa 7) (aR []))) (av (aB .NotEq (aa 8) (aR [])))) (ah [(bA (av (aB .Eq (ao (cl.f 18) [(aa 1),(cE (.int 2))]) (cE (.int 0)))) (ah [(bf 13 (bQ (aa 8) (ao (cl.f 18) [(aa 1),(cX T.aJ cl.m (some 1) (aa 8))]))),(bA (df (cw (ao (cl.f 23) [(aa 1),(aa 5),(aa 2),(aa 4),(aa 7),(aa 9),(aa 13)]))) (ah [(retS (cE (.bl false)))]) (ah []))]) (ah [(bA (df (cw (ao (cl.f 24) [(aa 5),(aa 2),(aa 7),(aa 9),(aa 8)]))) (ah [(retS (cE (.bl false)))]) (ah []))])),(bA (av (aB .NotEq (az T.aJ cl.m (some 41) none (aa 5) []) (aR []))) (ah [(retS (cE (.bl false)))]) (ah []))]) (ah []))])),(retS (cE (.bl true)))])
theorem Oe (n:Nat)(v0:D)(S:ae):(ag P (n+1)).f 25 [v0] S=bc (AE (ag P n) [some v0,none,none,none,none,none,none,none,none,none,none,none,none,none] S):=by simp only[ar];rfl
def ng (cl:Calls):CS:=(ah [(bh (ao (cl.f 6) [(aa 1),(cE (.int 0)),(cE (.int 9))])),(eW T.plain (aa 0) 29 (aa 1)),(eW T.plain (aa 0) 21 jD)])
theorem wx (n:Nat)(v0 v1:D)(S:ae):(ag P (n+1)).m 0 0 [v0,v1] S=bc (ng (ag P n) [some v0,some v1] S):=by simp only[ar];rfl
def pK (cl:Calls):CS:=(ah [(bh (ao (cl.f 13) [(aa 1)])),(bh (ao (cl.f 7) [(aa 2)])),(bh (ao (cl.f 8) [(aa 3)])),(bh (ao (cl.f 8) [(aa 4)])),(bA (av (aB .In (aa 1) (aH (aa 0) 21))) (ah [(oe (aH (aa 0) 21) (aa 1))]) (ah [])),(bA (av (aB .Gt (aa 3) (aa 4))) (ah [(iw (aH (aa 0) 21) (aa 1) (bp [(aa 2),(aa 3)]))]) (ah [])),(bA (av (aB .Gt (cX T.aJ cl.m (some 1) (aH (aa 0) 21)) (aH (aa 0) 29))) (ah [(oe (aH (aa 0) 21) (bQ (ao (bV .list) [(aH (aa 0) 21)]) (cE (.int 0))))]) (ah []))])
theorem yB (n:Nat)(v0 v1 v2 v3 v4:D)(S:ae):(ag P (n+1)).m 0 27 [v0,v1,v2,v3,v4] S=bc (pK (ag P n) [some v0,some v1,some v2,some v3,some v4] S):=by simp only[ar];rfl
def p5 (cl:Calls):CS:=(ah [(bh (ao (cl.f 13) [(aa 1)])),(bh (ao (cl.f 8) [(aa 2)])),(bA (jf (av (aB .NotIn (aa 1) (aH (aa 0) 21))) (av (aB .LtE (bQ (bQ (aH (aa 0) 21) (aa 1)) (cE (.int 1))) (aa 2)))) (ah [(retS (cE .aj))]) (ah [])),(bf 3 (az T.aJ cl.m (some 26) (some .pop) (aH (aa 0) 21) [(aa 1)])),(iw (aH (aa 0) 21) (aa 1) (aa 3)),(retS (aa 3))])
theorem yp (n:Nat)(v0 v1 v2:D)(S:ae):(ag P (n+1)).m 0 16 [v0,v1,v2] S=bc (p5 (ag P n) [some v0,some v1,some v2,none] S):=by simp only[ar];rfl
def oo (cl:Calls):CS:=(ah [(retS (cK 1 (.dyn (aH (aa 0) 21)) [0] true always (bp [(aa 0),(bQ (bQ (aH (aa 1) 21) (aa 0)) (cE (.int 0))),(bQ (bQ (aH (aa 1) 21) (aa 0)) (cE (.int 1)))])))])
theorem wy (n:Nat)(v0:D)(S:ae):(ag P (n+1)).m 0 30 [v0] S=bc (oo (ag P n) [some v0] S):=by simp only[ar];rfl
def nW (cl:Calls):CS:=(ah [(eW T.plain (aa 0) 18 jD)])
theorem wm (n:Nat)(v0:D)(S:ae):(ag P (n+1)).m 1 0 [v0] S=bc (nW (ag P n) [some v0] S):=by simp only[ar];rfl
def pQ (cl:Calls):CS:=(ah [(bh (ao (cl.f 14) [(aa 1)])),(bh (ao (cl.f 9) [(aa 2)])),(iw (aH (aa 0) 18) (aa 1) (ao (bV .tuple) [(aa 2)]))])
theorem yt (n:Nat)(v0 v1 v2:D)(S:ae):(ag P (n+1)).m 1 27 [v0,v1,v2] S=bc (pQ (ag P n) [some v0,some v1,some v2] S):=by simp only[ar];rfl
def pN (cl:Calls):CS:=(ah [(bh (ao (cl.f 13) [(aa 1)])),(gM (.down (cX T.aJ cl.m (some 1) (aa 1))) [2] true (ah [(bf 3 (j5 (aa 1) none (some (aa 2)))),(bA (av (aB .In (aa 3) (aH (aa 0) 18))) (ah [(retS (bp [(aa 3),(ao (bV .list) [(bQ (aH (aa 0) 18) (aa 3))])]))]) (ah []))])),(retS (cE .aj))])
theorem yJ (n:Nat)(v0 v1:D)(S:ae):(ag P (n+1)).m 1 42 [v0,v1] S=bc (pN (ag P n) [some v0,some v1,none,none] S):=by simp only[ar];rfl
def mH (cl:Calls):CS:=(ah [(bf 2 (az T.aJ cl.m (some 42) none (aa 0) [(aa 1)])),(retS (mG (av (aB .Is (aa 2) (cE .aj))) (aR []) (bQ (aa 2) (cE (.int 1)))))])
theorem vc (n:Nat)(v0 v1:D)(S:ae):(ag P (n+1)).m 1 31 [v0,v1] S=bc (mH (ag P n) [some v0,some v1,none] S):=by simp only[ar];rfl
def pI (cl:Calls):CS:=(ah [(eW T.plain (aa 0) 32 (aa 1)),(eW T.plain (aa 0) 6 (aR [])),(eW T.plain (aa 0) 5 (aR [])),(eW T.plain (aa 0) 23 (aR []))])
theorem yI (n:Nat)(v0 v1:D)(S:ae):(ag P (n+1)).m 2 0 [v0,v1] S=bc (pI (ag P n) [some v0,some v1] S):=by simp only[ar];rfl
def nK (cl:Calls):CS:=(ah [(bh (ao (cl.f 6) [(aa 1),(cE (.int 0)),(cE (.int 7))])),(bh (ao (cl.f 9) [(aa 2)])),(bA (av (aB .In (aa 1) (aa 2))) (ah [cf]) (ah [])),(eW T.plain (aa 0) 33 (ia (cl.m 0 0) 0 [(aa 3)] (T.dh 0) [] [])),(bh (ao (cl.f 6) [(aa 4),(cE (.int 1)),(cE (.int 20))])),(eW T.plain (aa 0) 24 (aa 1)),(eW T.plain (aa 0) 7 (ao (bV .list) [(aa 2)])),(eW T.plain (aa 0) 25 (aa 4)),(eW T.plain (aa 0) 22 (ia (cl.m 1 0) 1 [] (T.dh 1) [] [])),(eW T.plain (aa 0) 35 jD),(eW T.plain (aa 0) 40 jD),(eW T.plain (aa 0) 17 jD),(eW T.plain (aa 0) 12 (aR []))])
theorem wI (n:Nat)(v0 v1 v2 v3 v4:D)(S:ae):(ag P (n+1)).m 3 0 [v0,v1,v2,v3,v4] S=bc (nK (ag P n) [some v0,some v1,some v2,some v3,some v4] S):=by simp only[ar];rfl
def pS (cl:Calls):CS:=(ah [(bh (ao (cl.f 13) [(aa 1)])),(bh (ao (cl.f 8) [(aa 2)])),(bf 3 (cX T.aJ cl.m (some 1) (aH (aa 0) 12))),(bh (az T.aJ cl.m (some 3) (some .append) (aH (aa 0) 12) [(bp [])])),(retS (bp [(aa 3),(az T.aJ cl.m (some 2) none (aa 0) [(bp [(cE (.str "own")),(aa 3)]),(aa 1),(aa 2)])]))])
theorem yz (n:Nat)(v0 v1 v2:D)(S:ae):(ag P (n+1)).m 3 4 [v0,v1,v2] S=bc (pS (ag P n) [some v0,some v1,some v2,none] S):=by simp only[ar];rfl
def iA (cl:Calls):CS:=(ah [(bA (jf (df (cw (ao (cl.f 0) [(aa 1)]))) (av (aB .NotIn (aa 1) (aH (aa 0) 7)))) (ah [cf]) (ah [])),(bA (df (cw (ao (cl.f 15) [(aa 2)]))) (ah [cf]) (ah [])),(bh (ao (cl.f 8) [(aa 3)])),(bf 4 (bQ (aa 2) (cE (.int 1)))),(bA (av (aB .Eq (bQ (aa 2) (cE (.int 0))) (cE (.str "ask")))) (ah [(retS (az T.aJ cl.m (some 2) none (aa 0) [(aa 1),(aa 4),(aa 3)]))]) (ah [])),(bA (jf (av (aB .NotIn (aa 4) (aH (aa 0) 40))) (av (aB .NotIn (aa 1) (aH (bQ (aH (aa 0) 40) (aa 4)) 5)))) (ah [(retS (aR []))]) (ah [])),(bA (jf (av (aB .Eq (bQ (aa 2) (cE (.int 0))) (cE (.str "no")))) (av (aB .Lt (bQ (aa 2) (cE (.int 3))) (aa 3)))) (ah [(retS (az T.aJ cl.m (some 37) none (aa 0) [(aa 1),(aa 4)]))]) (ah [])),(retS (az T.aJ cl.m (some 38) none (aa 0) [(aa 1),(aa 2),(aa 3)]))])
theorem jY (n:Nat)(v0 v1 v2 v3:D)(S:ae):(ag P (n+1)).m 3 8 [v0,v1,v2,v3] S=bc (iA (ag P n) [some v0,some v1,some v2,some v3,none] S):=by simp only[ar];rfl
def mS (cl:Calls):CS:=(ah [(bh (az T.aJ cl.m (some 27) none (aH (aa 0) 22) [(aa 1),(aa 2)]))])
theorem vg (n:Nat)(v0 v1 v2:D)(S:ae):(ag P (n+1)).m 3 34 [v0,v1,v2] S=bc (mS (ag P n) [some v0,some v1,some v2] S):=by simp only[ar];rfl
def pJ (cl:Calls):CS:=(ah [(bA (df (cw (ao (cl.f 1) [(aa 1),(cE (.int 0)),(bD .Sub (cX T.aJ cl.m (some 1) (aH (aa 0) 12)) (cE (.int 1)))]))) (ah [cf]) (ah [])),(retS (bQ (aH (aa 0) 12) (aa 1)))])
theorem yn (n:Nat)(v0 v1:D)(S:ae):(ag P (n+1)).m 3 10 [v0,v1] S=bc (pJ (ag P n) [some v0,some v1] S):=by simp only[ar];rfl
def mQ (cl:Calls):CS:=(ah [(bf 1 (aR [])),(gM (.dyn (aH (aa 0) 40)) [2] true (ah [(bf 3 (bQ (aH (aa 0) 40) (aa 2))),(bh (az T.aJ cl.m (some 3) (some .append) (aa 1) [(bp [(aa 2),(aH (aa 3) 32),(ao (bV .list) [(aH (aa 3) 6)]),(ao (bV .list) [(aH (aa 3) 5)]),(ao (bV .list) [(aH (aa 3) 23)])])]))])),(retS (aa 1))])
theorem vk (n:Nat)(v0:D)(S:ae):(ag P (n+1)).m 3 41 [v0] S=bc (mQ (ag P n) [some v0,none,none,none] S):=by simp only[ar];rfl
def mL (cl:Calls):CS:=(ah [(retS (az T.aJ cl.m (some 30) none (aH (aa 0) 33) []))])
theorem vn (n:Nat)(v0:D)(S:ae):(ag P (n+1)).m 3 20 [v0] S=bc (mL (ag P n) [some v0] S):=by simp only[ar];rfl
def lP (cl:Calls):CS:=(ah [(retS (cK 1 (.dyn (az T.aJ cl.m (some 31) none (aH (aa 0) 22) [(aa 1)])) [0] true (av (aB .In (aa 0) (aH (aa 1) 7))) (aa 0)))])
theorem sY (n:Nat)(v0 v1:D)(S:ae):(ag P (n+1)).m 3 39 [v0,v1] S=bc (lP (ag P n) [some v0,some v1] S):=by simp only[ar];rfl
def mT (cl:Calls):CS:=(ah [(bA (av (aB .In (aa 1) (aH (aa 0) 35))) (ah [(tupS [3,4] (bQ (aH (aa 0) 35) (aa 1))),(retS (bp [(aa 3),(bD .Add (aa 2) (aa 4))]))]) (ah [])),(bf 5 (az T.aJ cl.m (some 16) none (aH (aa 0) 33) [(aa 1),(aa 2)])),(bA (av (aB .IsNot (aa 5) (cE .aj))) (ah [(retS (aa 5))]) (ah [])),(retS (az T.aJ cl.m (some 15) (some .get) (aH (aa 0) 17) [(bp [(aa 1),(aa 2)])]))])
theorem vf (n:Nat)(v0 v1 v2:D)(S:ae):(ag P (n+1)).m 3 14 [v0,v1,v2] S=bc (mT (ag P n) [some v0,some v1,some v2,none,none,none] S):=by simp only[ar];rfl
def j0 (cl:Calls):CS:=(ah [(bf 4 (az T.aJ cl.m (some 14) none (aa 0) [(aa 2),(aa 3)])),(bA (av (aB .IsNot (aa 4) (cE .aj))) (ah [(retS (az T.aJ cl.m (some 36) none (aa 0) [(aR [(aa 1)]),(bp [(cE (.str "thing")),(aa 2),(bQ (aa 4) (cE (.int 0))),(bQ (aa 4) (cE (.int 1)))])]))]) (ah [])),(bf 5 (az T.aJ cl.m (some 15) (some .qS) (aH (aa 0) 40) [(aa 2),(ia (cl.m 2 0) 2 [(aa 3)] (T.dh 2) [] [])])),(bA (av (aB .NotIn (aa 1) (aH (aa 5) 6))) (ah [(bh (az T.aJ cl.m (some 3) (some .append) (aH (aa 5) 6) [(aa 1)]))]) (ah [])),(bf 6 (cK 1 (.dyn (az T.aJ cl.m (some 39) none (aa 0) [(aa 2)])) [0] true (iH (av (aB .NotIn (aa 0) (aH (aa 6) 5))) (iH (av (aB .NotIn (aa 0) (aH (aa 6) 23))) (av (aB .NotEq (aH (aa 6) 6) (aR [(aa 0)]))))) (aa 0))),(bh (az T.aJ cl.m (some 13) (some .extend) (aH (aa 5) 5) [(aa 6)])),(bA (df (cw (aH (aa 5) 5))) (ah [(retS (az T.aJ cl.m (some 36) none (aa 0) [(aR [(aa 1)]),(bp [(cE (.str "no")),(aa 2)])]))]) (ah [])),(iw (aH (aa 0) 40) (aa 2) (aa 5)),(retS (cK 1 (.dyn (aa 6)) [0] true always (bp [(aa 0),(bp [(cE (.str "ask")),(aa 3)])])))])
theorem qQ (n:Nat)(v0 v1 v2 v3:D)(S:ae):(ag P (n+1)).m 3 2 [v0,v1,v2,v3] S=bc (j0 (ag P n) [some v0,some v1,some v2,some v3,none,none,none] S):=by simp only[ar];rfl
def ja (cl:Calls):CS:=(ah [(tupS [4,5,6] (j5 (aa 2) (some (cE (.int 1))) none)),(bh (az T.aJ cl.m (some 27) none (aH (aa 0) 33) [(aa 4),(aa 5),(aa 6),(aa 3)])),(iw (aH (aa 0) 17) (bp [(aa 4),(aa 3)]) (bp [(aa 5),(aa 6)])),(bf 7 (az T.aJ cl.m (some 26) (some .pop) (aH (aa 0) 40) [(aa 4)])),(retS (az T.aJ cl.m (some 36) none (aa 0) [(cK 1 (.dyn (aH (aa 7) 6)) [0] true (av (aB .NotEq (aa 0) (aa 2))) (aa 0)),(aa 2)]))])
theorem ni (n:Nat)(v0 v1 v2 v3:D)(S:ae):(ag P (n+1)).m 3 38 [v0,v1,v2,v3] S=bc (ja (ag P n) [some v0,some v1,some v2,some v3,none,none,none,none] S):=by simp only[ar];rfl
def kH (cl:Calls):CS:=(ah [(bf 3 (bQ (aH (aa 0) 40) (aa 2))),(bh (az T.aJ cl.m (some 28) (some .remove) (aH (aa 3) 5) [(aa 1)])),(bh (az T.aJ cl.m (some 3) (some .append) (aH (aa 3) 23) [(aa 1)])),(retS (mG (cw (aH (aa 3) 5)) (aR []) (az T.aJ cl.m (some 11) none (aa 0) [(aa 2)])))])
theorem rC (n:Nat)(v0 v1 v2:D)(S:ae):(ag P (n+1)).m 3 37 [v0,v1,v2] S=bc (kH (ag P n) [some v0,some v1,some v2,none] S):=by simp only[ar];rfl
def mJ (cl:Calls):CS:=(ah [(bf 2 (az T.aJ cl.m (some 26) (some .pop) (aH (aa 0) 40) [(aa 1)])),(retS (az T.aJ cl.m (some 36) none (aa 0) [(aH (aa 2) 6),(bp [(cE (.str "no")),(aa 1)])]))])
theorem vp (n:Nat)(v0 v1:D)(S:ae):(ag P (n+1)).m 3 11 [v0,v1] S=bc (mJ (ag P n) [some v0,some v1,none] S):=by simp only[ar];rfl
def nk (cl:Calls):CS:=(ah [(bf 3 (mG (av (aB .Eq (bQ (aa 2) (cE (.int 0))) (cE (.str "thing")))) (bp [(bQ (aa 2) (cE (.int 2)))]) (bp [(cE .aj)]))),(bf 4 (aR [])),(gM (.dyn (aa 1)) [5] true (ah [(bA (cw (lN .tuple (aa 5))) (ah [(iw (aH (aa 0) 12) (bQ (aa 5) (cE (.int 1))) (aa 3))]) (ah [(bh (az T.aJ cl.m (some 3) (some .append) (aa 4) [(bp [(aa 5),(aa 2)])]))]))])),(retS (aa 4))])
theorem vS (n:Nat)(v0 v1 v2:D)(S:ae):(ag P (n+1)).m 3 36 [v0,v1,v2] S=bc (nk (ag P n) [some v0,some v1,some v2,none,none,none] S):=by simp only[ar];rfl
end Q41
namespace RF
open PySem
variable {ρ:Env}{S:ae}{Q:D->ae->Prop}{QB:Bool->ae->Prop}{QL:List D->ae->Prop}{K:En}
theorem kh {i:Nat}{d:D}(h:ρ[i]?=some (some d))(q:Q d S):Wp (aa i ρ S) Q:=ak (by unfold aa;rw[h]) q
theorem Et {d:D}(q:Q d S):Wp (cE d ρ S) Q:=q
theorem vR {op:Operator}{a b:C D}(h:Wp (a ρ S) λx S1=>Wp (b ρ S1) λy S2=>Wp (fS op x y S2) Q):Wp (bD op a b ρ S) Q:=wp_bind (wp_mono h λ_ _ h=>wp_bind h)
theorem i8 {op:CmpOp}{a b:C D}(h:Wp (a ρ S) λx S1=>Wp (b ρ S1) λy S2=>Wp (bg op x y S2) Q):Wp (aB op a b ρ S) Q:=wp_bind (wp_mono h λ_ _ h=>wp_bind h)
theorem Hi {a b:C D}(h:Wp (a ρ S) λx S1=>Wp (b ρ S1) λy S2=>Wp (dj x y S2) Q):Wp (bQ a b ρ S) Q:=wp_bind (wp_mono h λ_ _ h=>wp_bind h)
theorem BK {a:C D}{f:Nat}(h:Wp (a ρ S) λx S1=>Wp (nc x f S1) Q):Wp (aH a f ρ S) Q:=wp_bind h
theorem Hw {a:C D}{k:Kd}(h:Wp (a ρ S) λx S1=>Wp (d4 (mI S1 k x) S1) Q):Wp (lN k a ρ S) Q:=wp_bind h
theorem Di {a b:C D}(h:Wp (a ρ S) λx S1=>∃t,x = .bl t/\(t=true->Wp (b ρ S1) Q)/\(t=false->Q (.bl false) S1)):Wp (gR a b ρ S) Q:=wp_bind (wp_mono h λx S1 ⟨t,e,q1,q2⟩=>by
 subst e;cases t with
 | true=>exact q1 rfl
 | false=>exact q2 rfl)
theorem Ff {o1 o2:CmpOp}{a b c:C D}(h:Wp (a ρ S) λx S1=>Wp (b ρ S1) λy S2=>Wp (bg o1 x y S2) λr S3=>∃t,r = .bl t/\(t=true->Wp (c ρ S3) λz S4=>Wp (bg o2 y z S4) Q)/\(t=false->Q (.bl false) S3)):Wp (iy o1 o2 a b c ρ S) Q:=
 wp_bind (wp_mono h λ_ _ h=>wp_bind (wp_mono h λ_ _ h=>wp_bind (wp_mono h λx S1 ⟨t,e,q1,q2⟩=>by
 subst e;cases t with
 | true=>exact wp_bind (G5 (wp_bind (q1 rfl)))
 | false=>exact q2 rfl)))
theorem GU {c:C Bool}{a b:C D}(h:Wp (c ρ S) λt S1=>(t=true->Wp (a ρ S1) Q)/\(t=false->Wp (b ρ S1) Q)):Wp (mG c a b ρ S) Q:=wp_bind (wp_mono h λt S1 ⟨q1,q2⟩=>by
 cases t with
 | true=>exact q1 rfl
 | false=>exact q2 rfl)
theorem gD (q:QL [] S):Wp (bX [] ρ S) QL:=q
theorem eh {c:C D}{cs:List (C D)}(h:Wp (c ρ S) λx S1=>Wp (bX cs ρ S1) λxs S2=>QL (x::xs) S2):Wp (bX (c::cs) ρ S) QL:=wp_bind (wp_mono h λ_ _ h=>wp_bind h)
theorem CK {cs:List (C D)}(hb:big cs.length=true)(h:Wp (bX cs ρ S) λxs S1=>Q (.tup xs) S1):Wp (bp cs ρ S) Q:=cx hb (wp_bind h)
theorem Cs {cs:List (C D)}(hb:big cs.length=true)(h:Wp (bX cs ρ S) λxs S1=>Q (.ref S1.length) (S1++[.lst xs])):Wp (aR cs ρ S) Q:=cx hb (wp_bind h)
theorem zw (q:Q (.ref S.length) (S++[.aN []])):Wp (jD ρ S) Q:=q
theorem wp_call {f:List D->ae->R D}{cs:List (C D)}(h:Wp (bX cs ρ S) λxs S1=>Wp (f xs S1) Q):Wp (ao f cs ρ S) Q:=wp_bind h
theorem J1 {has:Nat->Nat->Bool}{call:Nat->Nat->List D->ae->R D}{m:Nat}{bm:Option Mt}{a:C D}{cs:List (C D)}(h:Wp (a ρ S) λx S1=>∃n c fs,x = .ref n/\S1[n]?=some (.obj c fs)/\((fs.lookup m).isNone&&has c m)=true/\Wp (bX cs ρ S1) λxs S2=>Wp (call c m (x::xs) S2) Q):Wp (az has call (some m) bm a cs ρ S) Q:=
 wp_bind (wp_mono h λx S1 ⟨n,c,fs,e,hn,hg,h⟩=>by subst e;simp only[hn];exact cx hg (wp_bind h))
theorem fR {has:Nat->Nat->Bool}{call:Nat->Nat->List D->ae->R D}{m:Option Nat}{bm:Mt}{a:C D}{cs:List (C D)}(h:Wp (a ρ S) λx S1=>∃n o,x = .ref n/\S1[n]?=some o/\w4 bm o=true/\Wp (bX cs ρ S1) λxs S2=>Wp (fj bm x xs S2) Q):Wp (az has call m (some bm) a cs ρ S) Q:=
 wp_bind (wp_mono h λx S1 ⟨n,o,e,hn,hg,h⟩=>by
  subst e;cases o with
  | obj c fs=>cases bm<;>simp[w4] at hg
  | lst xs=>simp only[hn];exact cx hg (wp_bind h)
  | cq xs=>simp only[hn];exact cx hg (wp_bind h)
  | aN xs=>simp only[hn];exact cx hg (wp_bind h)
  | c7 xs=>simp only[hn];exact cx hg (wp_bind h)
  | jx xs=>simp only[hn];exact cx hg (wp_bind h))
noncomputable def ny (S:ae):D->Bool
 | .ref n=>match S[n]? with | some (.obj _ _)=>false | _=>true
 | _=>true
theorem nH {has:Nat->Nat->Bool}{call:Nat->Nat->List D->ae->R D}{m:Option Nat}{a:C D}(h:Wp (a ρ S) λx S1=>ny S1 x=true/\∃n:Nat,oj S1 x=some n/\Q (.int n) S1):Wp (cX has call m a ρ S) Q:=
 wp_bind (wp_mono h λx S1 ⟨_,n,h2,q⟩=>ak (by show (match oj S1 x with | some n=>R.ok (D.int n) S1 | none=>.bad)=_;rw[h2]) q)
theorem oQ {init:List D->ae->R D}{c:Nat}{cs ds:List (C D)}{kw:List (Str×D)}{ks:List Str}(h:Wp (bX cs ρ S) λxs S1=>Wp (bX ds ρ S1) λzs S2=>Wp (init (.ref S2.length::xs++oM kw ks zs) (S2++[.obj c []])) λr S3=>r = .aj/\Q (.ref S2.length) S3):Wp (ia init c cs kw ks ds ρ S) Q:=
 wp_bind (wp_mono h λxs S1 h=>wp_bind (wp_mono h λzs S2 h=>wp_bind (wp_mono h λr S3 ⟨e,q⟩=>by subst e;exact q)))
theorem uo {a lo:C D}(h:Wp (a ρ S) λx S1=>Wp (lo ρ S1) λy S2=>∃i,y = .int i/\Wp (nO x (some i) none S2) Q):Wp (j5 a (some lo) none ρ S) Q:=
 wp_bind (wp_mono h λx S1 h=>wp_bind (wp_bind (wp_mono h λy S2 ⟨i,e,q⟩=>by subst e;exact G5 q)))
theorem uC {c:C (List D)}(h:Wp (c ρ S) λys S1=>Q (.tup ys) S1):Wp (sg c ρ S) Q:=wp_bind h
theorem zi {c:C (List D)}(h:Wp (c ρ S) λys S1=>∃bs,bools ys=some bs/\Q (.bl (bs.all id)) S1):Wp (sZ c ρ S) Q:=wp_bind (wp_mono h λys S1 ⟨bs,e,q⟩=>by rw[e];exact q)
theorem w6 {n:Nat}{a:C D}{is:List Nat}{one:Bool}{t:C Bool}{e:List D->C (List D)}(hb:blank is (inner n ρ)=true)(h:Wp (a ρ S) λx S1=>∃j,x = .int j/\(eX j&&decide (j.toNat<=sizeLine))=true/\Wp (bB (λ_=>true) is one t e (inner n ρ) (d5 0 j.toNat) [] S1) QL):Wp (ie n (.range a) is one t e [] ρ S) QL:=cx hb (wp_bind (wp_mono h λx S1 ⟨j,e,hg,h⟩=>by subst e;exact cx hg (h)))
theorem xg {a:C D}(h:Wp (a ρ S) λx S1=>∃b,lg S1 x=some b/\QB b S1):Wp (cw a ρ S) QB:=wp_bind (wp_mono h λx S1 ⟨b,e,q⟩=>by unfold truthOf;rw[e];exact q)
theorem wg {a:C D}(h:Wp (a ρ S) λx S1=>∃b,x = .bl b/\QB b S1):Wp (av a ρ S) QB:=wp_bind (wp_mono h λx S1 ⟨b,e,q⟩=>by subst e;exact q)
theorem zm {a:C Bool}(h:Wp (a ρ S) λb S1=>QB (!b) S1):Wp (df a ρ S) QB:=wp_bind h
theorem zr {a b:C Bool}(h:Wp (a ρ S) λt S1=>(t=true->Wp (b ρ S1) QB)/\(t=false->QB false S1)):Wp (iH a b ρ S) QB:=wp_bind (wp_mono h λt S1 ⟨q1,q2⟩=>by
 cases t with
 | true=>exact q1 rfl
 | false=>exact q2 rfl)
theorem Dk {a b:C Bool}(h:Wp (a ρ S) λt S1=>(t=true->QB true S1)/\(t=false->Wp (b ρ S1) QB)):Wp (jf a b ρ S) QB:=wp_bind (wp_mono h λt S1 ⟨q1,q2⟩=>by
 cases t with
 | true=>exact q1 rfl
 | false=>exact q2 rfl)
theorem kD (q:QB true S):Wp (always ρ S) QB:=q
theorem bO (q:K.nx ρ S):Wf (ah [] ρ S) K:=q
theorem aF {c:CS}{cs:List CS}(h:Wf (c ρ S) { K with nx:=λρ S=>Wf (ah cs ρ S) K }):Wf (ah (c::cs) ρ S) K:=HZ h
theorem oN {e:C D}(h:Wp (e ρ S) λ_ S1=>K.nx ρ S1):Wf (bh e ρ S) K:=dJ h
theorem jd {e:C D}(h:Wp (e ρ S) K.rt):Wf (retS e ρ S) K:=dJ h
theorem GZ {c:C Bool}{a b:CS}(h:Wp (c ρ S) λt S1=>(t=true->Wf (a ρ S1) K)/\(t=false->Wf (b ρ S1) K)):Wf (bA c a b ρ S) K:=dJ (wp_mono h λt S1 ⟨q1,q2⟩=>by
 cases t with
 | true=>exact q1 rfl
 | false=>exact q2 rfl)
theorem eD {i:Nat}{e:C D}(h:Wp (e ρ S) λd S1=>K.nx (ρ.set i (some d)) S1):Wf (bf i e ρ S) K:=dJ h
theorem qY {is:List Nat}{cs:List (C D)}(h:Wp (bX cs ρ S) λds S1=>∃ρ',k9 is ds ρ=some ρ'/\K.nx ρ' S1):Wf (ke is cs ρ S) K:=dJ (wp_mono h λds S1 ⟨ρ',e,q⟩=>by rw[e];exact q)
theorem vK {is:List Nat}{e:C D}(h:Wp (e ρ S) λd S1=>∃ds ρ',d = .tup ds/\k9 is ds ρ=some ρ'/\K.nx ρ' S1):Wf (tupS is e ρ S) K:=dJ (wp_mono h λd S1 ⟨ds,ρ',ed,e,q⟩=>by subst ed;simp only[e];exact q)
theorem Dm {pl:Nat->Nat->Bool}{o:C D}{f:Nat}{e:C D}(h:Wp (e ρ S) λv S1=>Wp (o ρ S1) λx S2=>Wp (i7 pl x f v S2) λ_ S3=>K.nx ρ S3):Wf (eW pl o f e ρ S) K:=dJ (wp_mono h λ_ _ h=>dJ (wp_mono h λ_ _ h=>dJ h))
theorem xM {o i e:C D}(h:Wp (e ρ S) λv S1=>Wp (o ρ S1) λx S2=>Wp (i ρ S2) λk S3=>Wp (dv x k v S3) λ_ S4=>K.nx ρ S4):Wf (iw o i e ρ S) K:=dJ (wp_mono h λ_ _ h=>dJ (wp_mono h λ_ _ h=>dJ (wp_mono h λ_ _ h=>dJ h)))
theorem vQ {o i:C D}(h:Wp (o ρ S) λx S1=>Wp (i ρ S1) λk S2=>Wp (jT x k S2) λ_ S3=>K.nx ρ S3):Wf (oe o i ρ S) K:=dJ (wp_mono h λ_ _ h=>dJ (wp_mono h λ_ _ h=>dJ h))
theorem xG {a:C D}{is:List Nat}{one:Bool}{b:CS}(h:Wp (a ρ S) λx S1=>Wf (nC is one b x ρ S1) K):Wf (gM (.dyn a) is one b ρ S) K:=dJ h
theorem qm {a:C D}{is:List Nat}{one:Bool}{b:CS}(h:Wp (a ρ S) λx S1=>∃j,x = .int j/\eX j=true/\Wf (forL is one b (d5 0 j.toNat) ρ S1) K):Wf (gM (.range a) is one b ρ S) K:=dJ (wp_mono h λx S1 ⟨j,e,hg,h⟩=>by subst e;simp only[hg,if_pos];exact h)
theorem dq {a:D}{xs:List D}{k:Int}{v:D}(h:itemsOf S a=some xs)(hi:j9 xs k=some v)(q:Q v S):Wp (dj a (.int k) S) Q:=by
 have hd:iq S a=false:=by
  cases a with
  | ref n=>
   unfold iq kvsOf;unfold itemsOf at h;cases ho:S[n]? with
   | none=>simp[ho] at h
   | some o=>cases o<;>simp[ho] at h<;>simp[ho]
  | _=>rfl
 refine ak ?_ q;unfold dj;rw[hd,if_neg (by decide),h];simp only[hi]
theorem zL {n:Nat}{af:List (D×D)}{k v:D}(h:S[n]?=some (.aN af)/\cj af k=true\/S[n]?=some (.c7 af)/\aY k=true)(hv:cU af k=some v)(q:Q v S):Wp (dj (.ref n) k S) Q:=by
 refine ak ?_ q;rcases h with⟨h,hk⟩|⟨h,hk⟩
 .simp[dj,iq,kvsOf,h,kz,hk,hv]
 .simp[dj,iq,kvsOf,h,kz,hk,hv]
theorem JC {n c:Nat}{fs:List (Nat×D)}{f:Nat}{v:D}(h:S[n]?=some (.obj c fs))(hv:fs.lookup f=some v)(q:Q v S):Wp (nc (.ref n) f S) Q:=ak (by simp[nc,h,hv]) q
theorem bz {n:Nat}{xs:List D}(h:S[n]?=some (.lst xs)):itemsOf S (.ref n)=some xs:=by simp[itemsOf,h]
theorem Dx {n:Nat}{xs:List D}(h:S[n]?=some (.cq xs)):itemsOf S (.ref n)=some xs:=by simp[itemsOf,h]
noncomputable def Fr (W:Nat->Prop)(S S':ae):Prop:=S.length<=S'.length/\∀i,i<S.length->¬W i->S'[i]?=S[i]?
noncomputable def no:Nat->Prop:=λ_=>False
theorem Fr.refl (W:Nat->Prop)(S:ae):Fr W S S:=⟨Nat.le_refl _,λ_ _ _=>rfl⟩
theorem Fr.trans {W W':Nat->Prop}{S S' S'':ae}(h:Fr W S S')(h':Fr W' S' S'')(m:∀i,i<S.length->W' i->W i):Fr W S S'':=
 ⟨Nat.le_trans h.1 h'.1,λi hi hw=>by rw[h'.2 i (Nat.lt_of_lt_of_le hi h.1) λw=>hw (m i hi w),h.2 i hi hw]⟩
theorem Fr.mono {W W':Nat->Prop}{S S':ae}(h:Fr W S S')(m:∀i,i<S.length->W i->W' i):Fr W' S S':=⟨h.1,λi hi hw=>h.2 i hi λw=>hw (m i hi w)⟩
theorem Fr.set (W:Nat->Prop)(S:ae)(n:Nat)(o:O)(h:W n):Fr W S (S.set n o):=⟨by simp,λi hi hw=>by rw[List.getElem?_set_ne];intro e;subst e;exact hw h⟩
theorem Fr.app (W:Nat->Prop)(S:ae)(T:List O):Fr W S (S++T):=⟨by simp,λi hi hw=>List.getElem?_append_left hi⟩
theorem Fr.at {W:Nat->Prop}{S S':ae}(h:Fr W S S'){i:Nat}{o:O}(ho:S[i]?=some o)(hw:¬W i):S'[i]?=some o:=by rw[h.2 i (List.getElem?_eq_some_iff.mp ho).1 hw,ho]
theorem aZ {S:ae}{i:Nat}{o:O}(ho:S[i]?=some o):i<S.length:=(List.getElem?_eq_some_iff.mp ho).1
theorem aG (S:ae)(o:O):(S++[o])[S.length]?=some o:=by simp
theorem dA {S:ae}{n:Nat}{o o':O}(h:S[n]?=some o):(S.set n o')[n]?=some o':=by rw[List.getElem?_set_self (aZ h)]
variable {has:Nat->Nat->Bool}{call:Nat->Nat->List D->ae->R D}{m:Option Nat}{a:C D}
theorem s9 (h:Wp (a ρ S) λx S1=>∃n xs,x = .ref n/\S1[n]?=some (.cq xs)/\Q (.int xs.length) S1):Wp (cX has call m a ρ S) Q:=nH (wp_mono h λx S1 ⟨n,xs,e,h,q⟩=>by subst e;exact⟨by simp only[ny,h],xs.length,by simp only[oj,kvsOf,itemsOf,h,Option.map_some],q⟩)
end RF
section
namespace Q41
open RF PySem
local macro_rules
 | `(tactic| rfl')=>`(tactic| repeat (first
 | with_reducible apply aF | with_reducible apply bO | with_reducible apply oN | with_reducible apply jd | with_reducible apply GZ | with_reducible apply eD | with_reducible apply qY | with_reducible apply vK | with_reducible apply Dm | with_reducible apply xM | with_reducible apply vQ | with_reducible apply xG | with_reducible apply qm
 | ((with_reducible apply kh);· rfl) | with_reducible apply Et | with_reducible apply vR | with_reducible apply i8 | with_reducible apply Hi | with_reducible apply BK | with_reducible apply Hw | with_reducible apply wp_not | with_reducible apply Di | with_reducible apply Ff | with_reducible apply GU | with_reducible apply gD | with_reducible apply eh | ((with_reducible refine CK ?_ ?_);· rfl) | ((with_reducible refine Cs ?_ ?_);· rfl) | with_reducible apply zw | with_reducible apply wp_call
 | with_reducible apply uC | with_reducible apply zi | ((with_reducible apply w6);· rfl) | with_reducible apply xg | with_reducible apply wg | with_reducible apply zm | with_reducible apply zr | with_reducible apply Dk | with_reducible apply kD | with_reducible apply uo
 | ((with_reducible apply ak (r:=fS _ _ _ _));· rfl)))
theorem jk {a b:Int}{S:ae}{Q:D->ae->Prop}(h:hX a b=true)(q:Q (.int (a*b)) S):Wp (fS .Mult (.int a) (.int b) S) Q:=ak (by show aE (hX a b) _=_;rw[h];rfl) q
theorem BQ {a b:Int}{S:ae}{Q:D->ae->Prop}(h:0<b)(h2:b<2 ^ 250)(q:Q (.int (a / b)) S):Wp (fS .FloorDiv (.int a) (.int b) S) Q:=ak (by show aE (decide (0<b)&&decide (b<2 ^ 250)) _=_;rw[decide_eq_true h,decide_eq_true h2];rfl) q
theorem nq {a b:Int}{S:ae}{Q:D->ae->Prop}(h:0<b)(q:Q (.int (a%b)) S):Wp (fS .Mod (.int a) (.int b) S) Q:=ak (by show aE (decide (0<b)) _=_;rw[decide_eq_true h];rfl) q
theorem mul_r {a b:Int}(h:b.natAbs<2 ^ 64):hX a b=true:=by simp[hX,h]
theorem Ny {a b:Int}(h:a.natAbs<2 ^ 64):hX a b=true:=by simp[hX,h]
theorem G8 {a b:Int}(h:a.natAbs<2 ^ 250)(h':b.natAbs<2 ^ 250):hX a b=true:=by simp[hX,h,h']
theorem ly {xs:List D}{i:Int}(h1:0<=i)(h2:i<xs.length):∃x,j9 xs i=some x/\x∈xs:=by
 have h3:i.toNat<xs.length:=by omega
 refine⟨xs[i.toNat],?_,List.getElem_mem _⟩;simp[j9,sj,h1,h2]
theorem FA (n:Nat)(a b:Int)(S:ae):∃z,(ag P (n+1)).f 17 [.int a,.int b] S = .ok (.int z) S:=by
 suffices h:Wp ((ag P (n+1)).f 17 [.int a,.int b] S) λv S'=>(∃z,v = .int z)/\S'=S by obtain⟨v,S',e,⟨z,rfl⟩,rfl⟩:=vA h;exact⟨z,e⟩
 rw[yG];apply aK;unfold pX;rfl';refine jk (mul_r (by decide)) ?_;rfl';refine jk (mul_r (by decide)) ?_;rfl';refine jk ?_ ?_
 .have h1:=Int.emod_nonneg (a*6364136223846793005+(b+1)*1442695040888963407) (b:=340282366920938463463374607431768211507) (by decide);have h2:=Int.emod_lt_of_pos (a*6364136223846793005+(b+1)*1442695040888963407) (b:=340282366920938463463374607431768211507) (by decide);exact G8 (by omega) (by omega)
 generalize ((a*6364136223846793005+(b+1)*1442695040888963407)%340282366920938463463374607431768211507)*((a*6364136223846793005+(b+1)*1442695040888963407)%340282366920938463463374607431768211507)=w;rfl';have h1:=Int.emod_nonneg w (b:=340282366920938463463374607431768211297) (by decide);have h2:=Int.emod_lt_of_pos w (b:=340282366920938463463374607431768211297) (by decide);generalize w%340282366920938463463374607431768211297=y at h1 h2;have h3:=Int.emod_nonneg y (b:=18446744073709551557) (by decide);have h4:=Int.emod_lt_of_pos y (b:=18446744073709551557) (by decide);have h5:0<=y / 18446744073709551557:=by omega
 have h6:y / 18446744073709551557<2 ^ 65:=by omega
 refine jk (Ny ?_) ?_
 .show (y%18446744073709551557+1).natAbs<2 ^ 64;omega
 rfl';refine jk (G8 ?_ ?_) ?_
 .show ((y%18446744073709551557+1)*(y / 18446744073709551557+1)).natAbs<2 ^ 250;rw[Int.natAbs_mul];have a1:(y%18446744073709551557+1).natAbs<=2 ^ 64:=by omega
  have a2:(y / 18446744073709551557+1).natAbs<=2 ^ 66:=by omega
  exact Nat.lt_of_le_of_lt (Nat.mul_le_mul a1 a2) (by decide)
 .show y.natAbs<2 ^ 250;omega
 rfl';exact⟨⟨_,rfl⟩,rfl⟩
def cC (d:Nat)(S:ae):Prop:=∃a b,S[d]?=some (.lst [.int a,.int b])
theorem Iz (n:Nat)(ns:List Int)(k:Int)(S:ae)(h:S[0]?=some (.cq (ns.map D.int)))(hk:0<=k)(hn:ns.length<=63):Wp ((ag P (n+1)).f 16 [.ref 0,.int k] S) λv S'=>(∃z,v = .int z)/\S'=S++[.lst []]:=by
 rw[Af];apply aK;unfold rR;rfl';have h':(S++[O.lst []])[0]?=some (.cq (ns.map D.int)):=(Fr.app no S [O.lst []]).at h (λh=>h);refine ak (a:=.bl (ns.map D.int).isEmpty) (S:=S++[.lst []]) ?_ ?_
 .simp only[bg,iS,h',aG,d4]
 refine⟨_,rfl,λhc=>?_,λhc=>?_⟩
 .rfl';refine jk (mul_r (by decide)) ?_;exact⟨⟨_,rfl⟩,rfl⟩
 .rfl';have hl:0<(ns.map D.int).length:=by
   cases ns with
   | nil=>simp at hc
   | cons x xs=>simp
  have yb:(0:Int)<((ns.map D.int).length:Int):=by omega
  have hb:((ns.map D.int).length:Int)<2 ^ 250:=by simp;omega
  refine s9 ?_;rfl';refine⟨_,_,rfl,h',?_⟩;refine nq yb ?_;obtain⟨x,e,hm⟩:=ly (xs:=ns.map D.int) (i:=k%((ns.map D.int).length:Int)) (Int.emod_nonneg _ (by omega)) (Int.emod_lt_of_pos _ yb);obtain⟨z,hz,rfl⟩:=List.mem_map.mp hm;refine dq (Dx h') e ?_;rfl';refine s9 ?_;rfl';refine⟨_,_,rfl,h',?_⟩;refine BQ yb hb ?_;rfl';refine jk (mul_r (by decide)) ?_;rfl';exact⟨⟨_,rfl⟩,rfl⟩
theorem y0 {S:ae}{Q:Unit->ae->Prop}{n j:Nat}{xs:List D}{k:Int}{v:D}(h:S[n]?=some (.lst xs))(hi:sj xs.length k=some j)(q:Q () (S.set n (.lst (xs.set j v)))):Wp (dv (.ref n) (.int k) v S) Q:=ak (by simp only[dv,h,hi]) q
theorem IG (n d:Nat)(m:Int)(S:ae)(hd:cC d S)(h1:0<m)(h2:m<2 ^ 250):Wp ((ag P (n+2)).f 18 [.ref d,.int m] S) λv S'=>(∃z,v = .int z/\0<=z/\z<m)/\∃a b,S'=S.set d (.lst [.int a,.int b]):=by
 obtain⟨a,b,hd⟩:=hd;rw[AM];apply aK;unfold qZ;rfl';refine dq (bz hd) rfl ?_;rfl';refine ak rfl ?_;refine⟨_,rfl,λ_=>?_,λ_=>?_⟩
 .rfl';refine dq (bz hd) rfl ?_;rfl';refine nq h1 ?_;rfl';refine dq (bz hd) rfl ?_;rfl';refine BQ h1 h2 ?_;rfl';refine y0 hd rfl ?_;rfl';exact⟨⟨_,rfl,Int.emod_nonneg _ (by omega),Int.emod_lt_of_pos _ h1⟩,_,_,rfl⟩
 .rfl';refine dq (bz hd) rfl ?_;rfl';refine y0 hd rfl ?_;have iD:=dA (o':=.lst [.int a,.int (b+1)]) hd;rfl';refine dq (bz iD) rfl ?_;rfl';refine dq (bz iD) rfl ?_;rfl';obtain⟨z,e⟩:=FA n a (b+1) (S.set d (.lst [.int a,.int (b+1)]));refine ak e ?_;rfl';refine nq h1 ?_;exact⟨⟨_,rfl,Int.emod_nonneg _ (by omega),Int.emod_lt_of_pos _ h1⟩,_,_,rfl⟩
theorem gZ (lo:Int)(n:Nat):(d5 lo n).length=n:=by simp[d5]
theorem uB {lo:Int}{n i:Nat}{x:D}(h:(d5 lo n)[i]?=some x):x = .int (lo+(i:Int)):=by
 unfold d5 at h;rw[List.getElem?_map] at h;cases hi:(List.range n)[i]? with
 | none=>simp[hi] at h
 | some k=>obtain⟨h1,h2⟩:=List.getElem?_eq_some_iff.mp hi;simp at h2;subst h2;rw[hi] at h;simpa using h.symm
theorem oX {n:Nat}{S T:ae}(h:S.all (i0 n)=true)(h':T.all (i0 n)=true):(S++T).all (i0 n)=true:=by rw[List.all_append,h,h'];rfl
theorem Dw (n:Nat)(ns:List Int)(hn:ns.length<=63)(S:ae)(h:S[0]?=some (.cq (ns.map D.int)))(hl:S.length=1)(ho:S.all (i0 10)=true):Wp ((ag P (n+2)).f 19 [.ref 0,.int 4] S) λv S'=>∃g ds,v = .ref g/\S'[g]?=some (.lst ds)/\S'[0]?=some (.cq (ns.map D.int))/\S'.length<=10/\S'.all (i0 10)=true/\∀x∈ds,∃d,x = .ref d/\d≠g/\cC d S':=by
 rw[xw];apply aK;unfold nY;apply aF;apply jd;apply wp_bind;rfl';refine s9 ?_;rfl';refine⟨_,_,rfl,h,?_⟩;rfl';refine ak rfl ?_;rfl';refine ak rfl ?_;refine⟨_,rfl,?_,?_⟩
 .simp only[List.length_map,eX,Bool.and_eq_true,decide_eq_true_eq,sizeLine];split<;>split<;>omega
 generalize hj:(if (if ((ns.map D.int).length:Int)<4 then ((ns.map D.int).length:Int) else 4) > 1 then (if ((ns.map D.int).length:Int)<4 then ((ns.map D.int).length:Int) else 4) else 1)=j;have j3:j.toNat<=4:=by rw[<-hj];split<;>split<;>omega
 refine yV (Inv:=λi ys S'=>i<=4/\ys.length<=i/\(∀x∈ys,∃d,x = .ref d/\cC d S')/\Fr no S S'/\S'.length=1+2*i/\S'.all (i0 10)=true) ⟨by omega,Nat.le_refl _,λx hx=>by simp at hx,Fr.refl _ _,by omega,ho⟩ (λ_ _ _ _ _=>rfl) (λi x ys S1 hx hI=>?_) (λys S1 hI=>?_)
 .have hi:i<4:=by have:=(List.getElem?_eq_some_iff.mp hx).1;rw[gZ] at this;omega
  rw[uB hx];obtain⟨_,h0,h1,h2,h3,h4⟩:=hI;refine⟨_,rfl,?_⟩;apply kD;rw[if_pos rfl];refine cx (decide_eq_true (show ys.length<sizeLine by unfold sizeLine;omega)) (wp_bind ?_);rfl';refine wp_mono (Iz n ns _ S1 (h2.at h λh=>h) (by omega) hn) λv S2 ⟨⟨z,ez⟩,hf⟩=>?_;subst ez;subst hf;rfl';have jy:Fr no S1 ((S1++[O.lst []])++[O.lst [.int z,.int 0]]):=(Fr.app no _ _).trans (Fr.app no _ _) λ_ _ h=>h;refine⟨by omega,by rw[List.length_append];simp;omega,λy hy=>?_,h2.trans jy λ_ _ h=>h,by simp;omega,oX (oX h4 rfl) rfl⟩;rcases List.mem_append.mp hy with hy | hy
  .obtain⟨d,e,a,b,hd⟩:=h1 y hy;exact⟨d,e,a,b,jy.at hd λh=>h⟩
  .rw[List.mem_singleton.mp hy];exact⟨_,rfl,_,_,aG _ _⟩
 .obtain⟨_,_,h1,h2,h3,h4⟩:=hI;rw[gZ] at h3;have hf:Fr no S1 (S1++[O.lst ys]):=Fr.app _ _ _;refine⟨_,ys,rfl,aG _ _,(h2.trans hf λ_ _ h=>h).at h λh=>h,by simp;omega,oX h4 ?_,λx hx=>?_⟩
  .simp only[List.all_cons,List.all_nil,Bool.and_true];show ys.all (kF 10)=true;rw[List.all_eq_true];intro x hx;obtain⟨d,rfl,a,b,hd⟩:=h1 x hx;have:=aZ hd;exact decide_eq_true (by omega)
  .obtain⟨d,e,a,b,hd⟩:=h1 x hx;exact⟨d,e,Nat.ne_of_lt (aZ hd),a,b,hf.at hd λh=>h⟩
theorem cC.lt {d:Nat}{S:ae}(h:cC d S):d<S.length:=by obtain⟨a,b,h⟩:=h;exact aZ h
theorem cC.fr {d:Nat}{S S':ae}{W:Nat->Prop}(h:cC d S)(hf:Fr W S S')(hw:¬W d):cC d S':=by obtain⟨a,b,h⟩:=h;exact⟨a,b,hf.at h hw⟩
theorem bE {α:Type}{r:R α}{a:α}{S:ae}(h:Wp r λx S'=>x=a/\S'=S):r = .ok a S:=by obtain⟨x,S',e,rfl,rfl⟩:=vA h;exact e
theorem kB {chk:ae->Bool}{i:Nat}{t:C Bool}{e:C D}{ρ:RF.Env}{S:ae}{f:D->Bool}{h:D->D}(hc:chk S=true):∀(xs acc:List D),(∀x∈xs,t (ρ.set i (some x)) S = .ok (f x) S/\e (ρ.set i (some x)) S = .ok (h x) S)->acc.length+xs.length<sizeLine ->
 bB chk [i] true t (bL e) ρ xs acc S = .ok (acc++(xs.filter f).map h) S
 | [],acc,_,_=>by unfold bB;rw[if_pos hc];simp
 | x::xs,acc,hx,hl=>by
  obtain⟨h1,h2⟩:=hx x (List.mem_cons_self ..);rw[List.length_cons] at hl;unfold bB;rw[if_pos hc];show (t (ρ.set i (some x)) S).bind _=_;rw[h1,R.bJ]
  by_cases q:f x=true
  .rw[if_pos q];have:bL e acc (ρ.set i (some x)) S = .ok (acc++[h x]) S:=by unfold bL aE;rw[if_pos (decide_eq_true (by omega)),h2,R.bJ]
   rw[this,R.bJ,kB hc xs _ (λy hy=>hx y (List.mem_cons_of_mem _ hy)) (by rw[List.length_append,List.length_singleton];omega),List.filter_cons,if_pos q];simp
  .rw[if_neg q,kB hc xs _ (λy hy=>hx y (List.mem_cons_of_mem _ hy)) (by omega),List.filter_cons,if_neg q]
theorem gC (n:Nat)(i:Int)(S:ae):(ag P (n+1)).f 0 [.int i] S = .ok (.bl true) S:=by rw[AA];rfl
theorem ig (n:Nat)(i lo hi:Int)(S:ae)(h1:lo<=i)(h2:i<=hi):(ag P (n+2)).f 1 [.int i,.int lo,.int hi] S = .ok (.bl true) S:=by rw[yH];apply bE;apply aK;unfold pV;rfl';refine ak (gC _ _ _) ?_;refine⟨_,rfl,λ_=>?_,λh=>by simp at h⟩;rfl';refine ak rfl ?_;refine⟨_,rfl,λ_=>?_,λh=>by simp at h;omega⟩;rfl';refine ak rfl ?_;refine⟨?_,rfl⟩;simp[h2]
theorem su (n:Nat)(i:Int)(S:ae)(h:0<=i):(ag P (n+2)).f 4 [.int i] S = .ok (.bl true) S:=by rw[BN];apply bE;apply aK;unfold t8;rfl';refine ak (gC _ _ _) ?_;refine⟨_,rfl,λ_=>?_,λh=>by simp at h⟩;rfl';refine ak rfl ?_;refine⟨?_,rfl⟩;simp[h]
theorem yM (n:Nat)(i:Int)(S:ae)(h1:0<=i)(h2:i<=999):(ag P (n+3)).f 2 [.int i] S = .ok (.bl true) S:=by rw[AW];apply bE;apply aK;unfold rV;rfl';refine ak (ig _ _ _ _ _ h1 h2) ?_;exact⟨rfl,rfl⟩
theorem gg (n:Nat)(i lo hi:Int)(S:ae)(h1:lo<=i)(h2:i<=hi):(ag P (n+3)).f 6 [.int i,.int lo,.int hi] S = .ok .aj S:=by rw[ve];apply bE;apply aK;unfold mM;rfl';refine ak (ig _ _ _ _ _ h1 h2) ?_;refine⟨_,rfl,λh=>by simp at h,λ_=>?_⟩;exact⟨rfl,rfl⟩
theorem vd (n:Nat)(i:Int)(S:ae)(h1:0<=i)(h2:i<=999):(ag P (n+4)).f 7 [.int i] S = .ok .aj S:=by rw[wU];apply bE;apply aK;unfold om;rfl';refine ak (gg _ _ _ _ _ h1 h2) ?_;exact⟨rfl,rfl⟩
theorem dZ (n:Nat)(i:Int)(S:ae)(h:0<=i):(ag P (n+3)).f 8 [.int i] S = .ok .aj S:=by rw[yE];apply bE;apply aK;unfold pF;rfl';refine ak (su _ _ _ h) ?_;exact⟨_,rfl,λh=>by simp at h,λ_=>⟨rfl,rfl⟩⟩
def Hz:List Str:=["a","b","c","x9","long"]
def parts:List D:=Hz.map D.str
theorem AV (n:Nat)(x:D)(S:ae)(h:x∈parts):(ag P (n+1)).f 10 [x] S = .ok (.bl true) S:=by
 have h:x = .str "a"\/x = .str "b"\/x = .str "c"\/x = .str "x9"\/x = .str "long":=by simpa[parts,Hz] using h
 rw[B1];rcases h with rfl|rfl|rfl|rfl|rfl<;>kernel_rfl
def aM (x:D):Prop:=∃ps:List D,x = .tup ps/\1<=ps.length/\ps.length<=5/\∀p∈ps,p∈parts
theorem rb (l:List D):bools (l.map λ_=>D.bl true)=some (l.map λ_=>true):=by
 induction l with
 | nil=>rfl
 | cons x xs ih=>simp[bools,ih]
theorem jA (n:Nat)(x:D)(S:ae)(h:aM x):(ag P (n+2)).f 11 [x] S = .ok (.bl true) S:=by
 obtain⟨ps,rfl,h1,h2,h3⟩:=h;rw[uJ];apply bE;apply aK;unfold uM;rfl';refine ak rfl ?_;refine⟨_,rfl,λh=>by simp at h,λ_=>?_⟩;rfl';refine nH ?_;rfl';refine⟨rfl,_,rfl,?_⟩;refine ak rfl ?_;refine⟨_,rfl,λ_=>?_,λh=>by simp at h;omega⟩;rfl';refine ak rfl ?_;refine⟨_,rfl,?_⟩;refine⟨λh=>by simp at h;omega,λ_=>?_⟩;rfl';refine ak (a:=ps.map λ_=>D.bl true) (S:=S) ?_ ⟨_,rb _,?_,rfl⟩
 .show aE true ((bB (λ_=>true) [0] true always (bL (ao ((ag P (n+1)).f 10) [aa 0])) [none,some (.tup ps)] ps [] S))=_;rw[kB (f:=λ_=>true) (h:=λ_=>.bl true) rfl ps [] (λx hx=>⟨rfl,?_⟩) (by unfold sizeLine;simp;omega)]
  .have:(ps.filter λ_=>true)=ps:=List.filter_eq_self.mpr λ_ _=>rfl;rw[this];rfl
  .show (ag P (n+1)).f 10 [x] S=_;exact AV n x S (h3 x hx)
 .simp
theorem ip (n:Nat)(x:D)(S:ae)(h:aM x):(ag P (n+3)).f 13 [x] S = .ok .aj S:=by rw[yw];apply bE;apply aK;unfold pM;rfl';refine ak (jA _ _ _ h) ?_;exact⟨_,rfl,λh=>by simp at h,λ_=>⟨rfl,rfl⟩⟩
theorem rW (n:Nat)(x:D)(w:Str)(S:ae)(h:aM x)(hw:w = "ask"\/w = "no"):(ag P (n+3)).f 15 [.tup [.str w,x]] S = .ok (.bl true) S:=by
 rw[pH];apply bE;apply aK;unfold k7;rfl';refine ak rfl ?_;refine⟨_,rfl,λh=>by simp at h,λ_=>?_⟩;rfl';refine nH ?_;rfl';refine⟨rfl,_,rfl,?_⟩;refine ak rfl ?_;refine⟨_,rfl,λh=>by simp at h,λ_=>?_⟩;rfl';refine ak rfl ?_;rfl';refine ak (jA _ _ _ h) ?_;refine⟨_,rfl,λh=>by simp at h,λ_=>?_⟩;rfl';refine ak rfl ?_;rfl';rcases hw with rfl|rfl
 all_goals
  refine ak (a:=.bl false) (S:=S) (by kernel_rfl) ?_;refine⟨_,rfl,λh=>by simp at h,λ_=>?_⟩;rfl';refine ak rfl ?_;rfl';refine ak (a:=.bl true) (S:=S) (by kernel_rfl) ?_;refine⟨_,rfl,λ_=>?_,λh=>by simp at h⟩;rfl';refine nH ?_;rfl';refine⟨rfl,_,rfl,?_⟩;refine ak rfl ?_;exact⟨rfl,rfl⟩
end Q41
end
namespace RF
open PySem
noncomputable def bK:Nat->D->Bool
 | 0,_=>false
 | n+1,.tup xs=>xs.all (bK n)
 | _+1,.aj=>true
 | _+1,.int _=>true
 | _+1,.str _=>true
 | _+1,_=>false
theorem CI:∀(n:Nat) (x:D),bK n x=true->bK (n+1) x=true
 | 0,x,h=>by cases h
 | n+1,.tup xs,h=>by simp only[bK,List.all_eq_true] at h ⊢;exact λy hy=>CI n y (h y hy)
 | n+1,.aj,_=>rfl
 | n+1,.int _,_=>rfl
 | n+1,.str _,_=>rfl
 | n+1,.bl _,h=>by cases h
 | n+1,.ref _,h=>by cases h
theorem gS {n m:Nat}{x:D}(h:bK n x=true)(hm:n<=m):bK m x=true:=by
 induction hm with
 | refl=>exact h
 | step _ ih=>exact CI _ _ ih
theorem IC (xs ys:List D):decide (D.tup xs = .tup ys)=decide (xs=ys):=by
 by_cases h:xs=ys
 .rw[h];simp
 .rw[decide_eq_false h,decide_eq_false λe=>h (by cases e;rfl)]
theorem sU {S:ae}{n:Nat}(ih:∀a b,bK n a=true->bK n b=true->cF S n a b=some (decide (a=b))):∀xs ys:List D,(∀x∈xs,bK n x=true)->(∀y∈ys,bK n y=true)->∃b,jq (cF S n) xs ys=some b/\(b&&xs.length==ys.length)=decide (xs=ys)
 | [],[],_,_=>⟨true,rfl,rfl⟩
 | [],_::_,_,_=>⟨true,rfl,rfl⟩
 | _::_,[],_,_=>⟨true,rfl,rfl⟩
 | x::xs,y::ys,hx,hy=>by
  obtain⟨b,e1,e2⟩:=sU ih xs ys (λz h=>hx z (List.mem_cons_of_mem _ h)) λz h=>hy z (List.mem_cons_of_mem _ h);refine⟨decide (x=y)&&b,?_,?_⟩
  .simp only[jq,ih x y (hx x List.mem_cons_self) (hy y List.mem_cons_self),e1]
  .by_cases h:x=y
   .subst h;have:(x::xs=x::ys)=(xs=ys):=by simp
    simp only[this,<-e2,List.length_cons,decide_true,Bool.true_and]
    congr 1
    simp
   .simp[h]
theorem rZ (S:ae):∀(n:Nat) (a b:D),bK n a=true->bK n b=true->cF S n a b=some (decide (a=b))
 | 0,_,_,h,_=>by cases h
 | n+1,a,b,ha,hb=>by
  have ih:=rZ S n;cases a with
  | bl _=>cases ha
  | ref _=>cases ha
  | tup xs=>
   cases b with
   | bl _=>cases hb
   | ref _=>cases hb
   | tup ys=>simp only[bK,List.all_eq_true] at ha hb;obtain⟨c,e1,e2⟩:=sU ih xs ys ha hb;have:cF S (n+1) (.tup xs) (.tup ys)=(jq (cF S n) xs ys).map λb=>b&&xs.length==ys.length:=rfl;rw[this,e1,Option.map_some,e2,IC]
   | aj=>rfl
   | int _=>rfl
   | str _=>rfl
  | aj=>cases b<;>first | rfl | cases hb
  | int i=>
   cases b with
   | int j=>
    have:cF S (n+1) (.int i) (.int j)=some (i==j):=rfl;rw[this]
    by_cases h:i=j
    .simp[h]
    .have:¬D.int i = .int j:=λe=>h (by cases e;rfl);simp[h]
   | bl _=>cases hb
   | ref _=>cases hb
   | aj=>rfl
   | tup _=>rfl
   | str _=>rfl
  | str i=>
   cases b with
   | str j=>
    have:cF S (n+1) (.str i) (.str j)=some (i==j):=rfl;rw[this]
    by_cases h:i=j
    .simp[h]
    .simp[h]
   | bl _=>cases hb
   | ref _=>cases hb
   | aj=>rfl
   | tup _=>rfl
   | int _=>rfl
theorem nZ:∀(n:Nat) (x:D),bK n x=true->bU x=true
 | 0,_,h=>by cases h
 | n+1,.tup xs,h=>by
  simp only[bK,List.all_eq_true] at h;have:∀ys:List D,(∀y∈ys,bK n y=true)->bU.many ys=true:=by
   intro ys
   induction ys with
   | nil=>intro _;simp[bU.many]
   | cons y ys ih=>intro hy;simp only[bU.many,nZ n y (hy y List.mem_cons_self),ih λz hz=>hy z (List.mem_cons_of_mem _ hz),Bool.and_self]
  simp only[bU,this xs h]
 | n+1,.aj,_=>by simp[bU]
 | n+1,.int _,_=>by simp[bU]
 | n+1,.str _,_=>by simp[bU]
 | n+1,.bl _,h=>by cases h
 | n+1,.ref _,h=>by cases h
theorem vI {n:Nat}:∀xs:List D,(∀x∈xs,bK n x=true)->bU.many xs=true
 | [],_=>by simp[bU.many]
 | x::xs,h=>by simp only[bU.many,nZ n x (h x List.mem_cons_self),vI xs λz hz=>h z (List.mem_cons_of_mem _ hz),Bool.and_self]
theorem zc {S:ae}{n:Nat}{x:D}(hx:bK n x=true):∀ys:List D,(∀y∈ys,bK n y=true)->la (λz=>cF S n z x) ys=some (decide (x∈ys))
 | [],_=>by simp[la]
 | y::ys,h=>by
  simp only[la,rZ S n y x (h y List.mem_cons_self) hx,zc hx ys λz hz=>h z (List.mem_cons_of_mem _ hz),List.mem_cons]
  by_cases e:x=y
  .simp[e]
  .have e':¬y=x:=λq=>e q.symm;simp[e,e']
variable {ρ:Env}{S:ae}{Q:D->ae->Prop}{QB:Bool->ae->Prop}{QL:List D->ae->Prop}{K:En}{a b x y:D}{xs ys:List D}{i j n:Nat}
theorem y8 (ha:bK 8 a=true)(hb:bK 8 b=true):iS S depth a b=some (decide (a=b)):=by
 have h:=rZ S 8 a b ha hb;cases a with
 | ref _=>cases ha
 | _=>exact h
theorem Fy (ha:bK 8 a=true)(hb:bK 8 b=true)(q:Q (.bl (decide (a=b))) S):Wp (bg .Eq a b S) Q:=ak (by simp only[bg,y8 ha hb,d4]) q
theorem Ah (ha:bK 8 a=true)(hb:bK 8 b=true)(q:Q (.bl (!decide (a=b))) S):Wp (bg .NotEq a b S) Q:=ak (by simp only[bg,y8 ha hb,d4,Option.map_some]) q
theorem yO (hi:S[i]?=some (.lst xs))(hj:S[j]?=some (.lst ys))(hx:∀x∈xs,bK 7 x=true)(hy:∀y∈ys,bK 7 y=true):iS S depth (.ref i) (.ref j)=some (decide (xs=ys)):=by
 obtain⟨c,e1,e2⟩:=sU (rZ S 7) xs ys hx hy;have:cF S 8 (.ref i) (.ref j)=some (decide (xs=ys)):=by
  unfold cF;simp only[hi,hj]
  by_cases h:xs.length=ys.length
  .rw[if_pos h,e1,<-e2,h];simp
  .rw[if_neg h,decide_eq_false λe=>h (by rw[e])]
 simp only[iS,hi];exact this
theorem Pt (hi:S[i]?=some (.lst xs))(hj:S[j]?=some (.lst ys))(hx:∀x∈xs,bK 7 x=true)(hy:∀y∈ys,bK 7 y=true)(q:Q (.bl (decide (xs=ys))) S):Wp (bg .Eq (.ref i) (.ref j) S) Q:=ak (by simp only[bg,yO hi hj hx hy,d4]) q
theorem sV (hi:S[i]?=some (.lst xs))(hj:S[j]?=some (.lst ys))(hx:∀x∈xs,bK 7 x=true)(hy:∀y∈ys,bK 7 y=true)(q:Q (.bl (!decide (xs=ys))) S):Wp (bg .NotEq (.ref i) (.ref j) S) Q:=ak (by simp only[bg,yO hi hj hx hy,d4,Option.map_some]) q
theorem zN (hi:S[i]?=some (.lst xs))(hj:S[j]?=some (.lst [])):iS S depth (.ref i) (.ref j)=some (decide (xs=[])):=by
 have:cF S 8 (.ref i) (.ref j)=some (decide (xs=[])):=by
  unfold cF;simp only[hi,hj];cases xs with
  | nil=>rfl
  | cons _ _=>simp
 simp only[iS,hi];exact this
theorem eq_0 (hi:S[i]?=some (.lst xs))(hj:S[j]?=some (.lst []))(q:Q (.bl (decide (xs=[]))) S):Wp (bg .Eq (.ref i) (.ref j) S) Q:=ak (by simp only[bg,zN hi hj,d4]) q
theorem ne_0 (hi:S[i]?=some (.lst xs))(hj:S[j]?=some (.lst []))(q:Q (.bl (!decide (xs=[]))) S):Wp (bg .NotEq (.ref i) (.ref j) S) Q:=ak (by simp only[bg,zN hi hj,d4,Option.map_some]) q
theorem Dg (h:S[n]?=some (.lst ys))(hx:bK 4 x=true)(hy:∀y∈ys,bK 4 y=true):inD S x (.ref n)=some (decide (x∈ys)):=by simp only[inD,iq,kvsOf,h,itemsOf,nZ 4 x hx,vI ys hy,Bool.and_self,if_true,zc hx ys hy];simp
theorem LD (h:S[n]?=some (.lst ys))(hx:bK 4 x=true)(hy:∀y∈ys,bK 4 y=true)(q:Q (.bl (decide (x∈ys))) S):Wp (bg .In x (.ref n) S) Q:=ak (by simp only[bg,Dg h hx hy,d4]) q
theorem jI (h:S[n]?=some (.lst ys))(hx:bK 4 x=true)(hy:∀y∈ys,bK 4 y=true)(q:Q (.bl (!decide (x∈ys))) S):Wp (bg .NotIn x (.ref n) S) Q:=ak (by simp only[bg,Dg h hx hy,d4,Option.map_some]) q
variable {af:List (D×D)}{k v:D}
theorem E6 (h:S[n]?=some (.aN af))(hk:cj af k=true)(q:Q (.bl (cU af k).isSome) S):Wp (bg .In k (.ref n) S) Q:=ak (by simp only[bg,inD,iq,kvsOf,kz,h,hk,Option.isSome_some,if_pos,Option.map_some,d4]) q
theorem Hj (h:S[n]?=some (.aN af))(hk:cj af k=true)(q:Q (.bl (!(cU af k).isSome)) S):Wp (bg .NotIn k (.ref n) S) Q:=ak (by simp only[bg,inD,iq,kvsOf,kz,h,hk,Option.isSome_some,if_pos,Option.map_some,d4]) q
theorem sE (h:S[n]?=some (.aN af))(hk:cj af k=true)(hv:cU af k=some v)(q:Q v S):Wp (dj (.ref n) k S) Q:=zL (Or.inl ⟨h,hk⟩) hv q
theorem AJ (h:S[n]?=some (.c7 af))(hk:aY k=true)(hv:cU af k=some v)(q:Q v S):Wp (dj (.ref n) k S) Q:=zL (Or.inr ⟨h,hk⟩) hv q
theorem NH {i:Int}(hi:j9 xs i=some v)(q:Q v S):Wp (dj (.tup xs) (.int i) S) Q:=dq (rfl:itemsOf S (.tup xs)=some xs) hi q
theorem sC {i:Int}(h:S[n]?=some (.lst xs))(hi:j9 xs i=some v)(q:Q v S):Wp (dj (.ref n) (.int i) S) Q:=dq (bz h) hi q
variable {QU:Unit->ae->Prop}
theorem Hd (h:S[n]?=some (.aN af))(hk:cj af k=true)(hv:(cU af k).isSome=true)(q:QU () (S.set n (.aN (iU af k)))):Wp (jT (.ref n) k S) QU:=ak (by simp only[jT,h,hk,hv];rfl) q
theorem vD (h:S[n]?=some (.aN af))(hp:eA k=false)(hk:cj af k=true)(hl:af.length<sizeLine)(q:QU () (S.set n (.aN (putD af k v)))):Wp (dv (.ref n) k v S) QU:=by refine ak ?_ q;unfold dv;simp only[h,hp,hk,hl,decide_true,Bool.and_true];rfl
theorem NQ {j:Nat}{i:Int}(h:S[n]?=some (.lst xs))(hi:sj xs.length i=some j)(q:QU () (S.set n (.lst (xs.set j v)))):Wp (dv (.ref n) (.int i) v S) QU:=ak (by simp only[dv,h,hi]) q
noncomputable def iz:List (D×D)->O
 | []=>.aN []
 | kv::af=>.jx (kv::af)
theorem N3 (h:S[n]?=some (iz af))(hk:eA k=true)(hl:af.length<sizeLine)(q:QU () (S.set n (iz (putD af k v)))):Wp (dv (.ref n) k v S) QU:=by
 refine ak ?_ q;cases af with
 | nil=>have h:S[n]?=some (.aN []):=h;simp only[dv,h,hk,if_true];rfl
 | cons p af=>
  have h:S[n]?=some (.jx (p::af)):=h;simp only[dv,h,hk,hl,decide_true,Bool.and_true];have:∃p' oz,putD (p::af) k v=p'::oz:=by
   unfold putD;split
   .exact⟨_,_,rfl⟩
   .exact⟨_,_,rfl⟩
  obtain⟨p',oz,e⟩:=this;rw[e];rfl
noncomputable def LO (S:ae)(x:D)(k:Nat->List D->Prop):Prop:=∃n xs,x = .ref n/\S[n]?=some (.lst xs)/\k n xs
theorem lo {k:Nat->List D->Prop}(h:S[n]?=some (.lst xs))(q:k n xs):LO S (.ref n) k:=⟨n,xs,rfl,h,q⟩
noncomputable def DO (S:ae)(x:D)(k:Nat->List (D×D)->Prop):Prop:=∃n af,x = .ref n/\S[n]?=some (.aN af)/\k n af
theorem PN {k:Nat->List (D×D)->Prop}(h:S[n]?=some (.aN af))(q:k n af):DO S (.ref n) k:=⟨n,af,rfl,h,q⟩
noncomputable def NO (S:ae)(x:D)(k:Nat->List Int->Prop):Prop:=∃(n:Nat) (is:List Int),x = .ref n/\S[n]?=some (.lst (is.map D.int))/\k n is
theorem PY {k:Nat->List Int->Prop}{is:List Int}(h:S[n]?=some (.lst (is.map D.int)))(q:k n is):NO S (.ref n) k:=⟨n,is,rfl,h,q⟩
noncomputable def PO (S:ae)(x:D)(k:Nat->List (D×D)->Prop):Prop:=∃n af,x = .ref n/\S[n]?=some (iz af)/\k n af
theorem PZ {k:Nat->List (D×D)->Prop}(h:S[n]?=some (iz af))(q:k n af):PO S (.ref n) k:=⟨n,af,rfl,h,q⟩
theorem MV {m:Option Nat}{has:Nat->Nat->Bool}{call:Nat->Nat->List D->ae->R D}{c:C D}{cs:List (C D)}(h:Wp (c ρ S) λx S1=>PO S1 x λn af=>Wp (bX cs ρ S1) λvs S2=>∃k,vs=[k]/\S2[n]?=some (iz af)/\eA k=true/\Q ((cU af k).getD .aj) S2):Wp (az has call m (some .get) c cs ρ S) Q:=by
 refine fR (wp_mono h λx S1 ⟨n,af,e,h1,h2⟩=>⟨n,iz af,e,h1,by cases af<;>rfl,wp_mono h2 λvs S2 ⟨k,e2,h3,h4,q⟩=>?_⟩)
 subst e e2;refine ak ?_ q;cases af with
 | nil=>have h3:S2[n]?=some (.aN []):=h3;simp only[fj,p8,sW,h3,h4];rfl
 | cons p af=>have h3:S2[n]?=some (.jx (p::af)):=h3;simp only[fj,p8,sW,h3,h4];rfl
theorem kW {pl:Nat->Nat->Bool}{c f:Nat}{fs:List (Nat×D)}(h:S[n]?=some (.obj c fs))(hg:(decide (fs.length<900)&&pl c f)=true)(q:QU () (S.set n (.obj c (d6 f v fs)))):Wp (i7 pl (.ref n) f v S) QU:=ak (by simp only[i7,h,hg];rfl) q
noncomputable def TB (x:D)(k:Bool->Prop):Prop:=∃b,x = .bl b/\k b
theorem tb {b:Bool}{k:Bool->Prop}(h:k b):TB (.bl b) k:=⟨b,rfl,h⟩
noncomputable def lq (t:Bool)(A B:Prop):Prop:=(t=true->A)/\(t=false->B)
theorem qJ {A B:Prop}(h:A):lq true A B:=⟨λ_=>h,λe=>by cases e⟩
theorem nJ {A B:Prop}(h:B):lq false A B:=⟨(λe=>by cases e),λ_=>h⟩
theorem Ej {t:Bool}{A B:Prop}(h:lq t B A):lq (!t) A B:=⟨λe=>h.2 (by simpa using e),λe=>h.1 (by simpa using e)⟩
theorem f7 {P A B:Prop}[Decidable P](h1:P->A)(h2:¬P->B):lq (decide P) A B:=⟨λe=>h1 (of_decide_eq_true e),λe=>h2 (of_decide_eq_false e)⟩
theorem d9 {P A B:Prop}[Decidable P](h:P)(h1:A):lq (decide P) A B:=⟨λ_=>h1,λe=>absurd h (of_decide_eq_false e)⟩
theorem jr {P A B:Prop}[Decidable P](h:¬P)(h1:B):lq (decide P) A B:=⟨λe=>absurd (of_decide_eq_true e) h,λ_=>h1⟩
variable {f g:C D}{c d:C Bool}
theorem Cc (h:Wp (f ρ S) λx S1=>TB x λt=>lq t (Wp (g ρ S1) Q) (Q (.bl false) S1)):Wp (gR f g ρ S) Q:=Di h
theorem Ob (h:Wp (f ρ S) λx S1=>TB x λt=>lq t (Q (.bl true) S1) (Wp (g ρ S1) Q)):Wp (G4 f g ρ S) Q:=wp_bind (wp_mono h λx S1 ⟨t,e,q1,q2⟩=>by
 subst e;cases t with
 | true=>exact q1 rfl
 | false=>exact q2 rfl)
theorem Oa (h:Wp (c ρ S) λt S1=>lq t (Wp (f ρ S1) Q) (Wp (g ρ S1) Q)):Wp (mG c f g ρ S) Q:=GU h
noncomputable def TR (S:ae)(x:D)(k:Bool->Prop):Prop:=∃b,lg S x=some b/\k b
theorem EW {b:Bool}{k:Bool->Prop}(h:k b):TR S (.bl b) k:=⟨b,rfl,h⟩
theorem OR {k:Bool->Prop}(hn:S[n]?=some (.lst xs))(h:k (!decide (xs=[]))):TR S (.ref n) k:=⟨_,by cases xs<;>simp[lg,hn],h⟩
theorem EC (h:Wp (f ρ S) λx S1=>TR S1 x λb=>QB b S1):Wp (cw f ρ S) QB:=xg h
theorem iJ (h:Wp (f ρ S) λx S1=>TB x λb=>QB b S1):Wp (av f ρ S) QB:=wg h
theorem IU (h:Wp (c ρ S) λt S1=>lq t (Wp (d ρ S1) QB) (QB false S1)):Wp (iH c d ρ S) QB:=zr h
theorem Dj (h:Wp (c ρ S) λt S1=>lq t (QB true S1) (Wp (d ρ S1) QB)):Wp (jf c d ρ S) QB:=Dk h
theorem dH {r s:CS}(h:Wp (c ρ S) λt S1=>lq t (Wf (r ρ S1) K) (Wf (s ρ S1) K)):Wf (bA c r s ρ S) K:=GZ h
noncomputable def MO (S:ae)(has:Nat->Nat->Bool)(m:Nat)(x:D)(k:Nat->Prop):Prop:=∃n c fs,x = .ref n/\S[n]?=some (.obj c fs)/\((fs.lookup m).isNone&&has c m)=true/\k c
theorem mo {has:Nat->Nat->Bool}{m c:Nat}{fs:List (Nat×D)}{k:Nat->Prop}(h:S[n]?=some (.obj c fs))(hg:((fs.lookup m).isNone&&has c m)=true)(q:k c):MO S has m (.ref n) k:=⟨n,c,fs,rfl,h,hg,q⟩
theorem zv {has:Nat->Nat->Bool}{call:Nat->Nat->List D->ae->R D}{m:Nat}{bm:Option Mt}{cs:List (C D)}(h:Wp (f ρ S) λx S1=>MO S1 has m x λc=>Wp (bX cs ρ S1) λxs S2=>Wp (call c m (x::xs) S2) Q):Wp (az has call (some m) bm f cs ρ S) Q:=
 J1 (wp_mono h λx S1 ⟨n,c,fs,e,h1,h2,h3⟩=>⟨n,c,fs,e,h1,h2,h3⟩)
theorem Kh {has:Nat->Nat->Bool}{call:Nat->Nat->List D->ae->R D}{m:Option Nat}(h:Wp (f ρ S) λx S1=>LO S1 x λn xs=>Wp (g ρ S1) λv S2=>∃ys,S2[n]?=some (.lst ys)/\ys.length<sizeLine/\Q .aj (S2.set n (.lst (ys++[v])))):Wp (az has call m (some .append) f [g] ρ S) Q:=by refine fR (wp_mono h λx S1 ⟨n,xs,e,h1,h2⟩=>⟨n,_,e,h1,rfl,eh (wp_mono h2 λv S2 ⟨ys,h3,h4,q⟩=>gD ?_)⟩);subst e;refine ak ?_ q;simp only[fj,p8,oP,h3,h4];rfl
theorem L0 {has:Nat->Nat->Bool}{call:Nat->Nat->List D->ae->R D}{m:Option Nat}(h:Wp (f ρ S) λx S1=>DO S1 x λn af=>Wp (g ρ S1) λk S2=>S2[n]?=some (.aN af)/\aY k=true/\cj af k=true/\∃v,cU af k=some v/\Q v (S2.set n (.aN (iU af k)))):Wp (az has call m (some .pop) f [g] ρ S) Q:=by refine fR (wp_mono h λx S1 ⟨n,af,e,h1,h2⟩=>⟨n,_,e,h1,rfl,eh (wp_mono h2 λk S2 ⟨h3,h4,h5,v,h6,q⟩=>gD ?_)⟩);subst e;refine ak ?_ q;simp only[fj,p8,Bx,h3,h4,h5,h6];rfl
theorem Jk {has:Nat->Nat->Bool}{call:Nat->Nat->List D->ae->R D}{m:Option Nat}{e:C D}(h:Wp (f ρ S) λx S1=>DO S1 x λn af=>Wp (g ρ S1) λk S2=>Wp (e ρ S2) λd S3=>S3[n]?=some (.aN af)/\aY k=true/\cj af k=true/\Q ((cU af k).getD d) S3):Wp (az has call m (some .qS) f [g,e] ρ S) Q:=by refine fR (wp_mono h λx S1 ⟨n,af,e,h1,h2⟩=>⟨n,_,e,h1,rfl,eh (wp_mono h2 λk S2 h2=>eh (wp_mono h2 λd S3 ⟨h3,h4,h5,q⟩=>gD ?_))⟩);subst e;refine ak ?_ q;simp only[fj,p8,vz,h3,h4,h5];rfl
theorem Lk {has:Nat->Nat->Bool}{call:Nat->Nat->List D->ae->R D}{m:Option Nat}(h:Wp (f ρ S) λx S1=>LO S1 x λn xs=>Wp (g ρ S1) λv S2=>∃j ys,v = .ref j/\S2[n]?=some (.lst xs)/\S2[j]?=some (.lst ys)/\xs.length+ys.length<=sizeLine/\Q .aj (S2.set n (.lst (xs++ys)))):Wp (az has call m (some .extend) f [g] ρ S) Q:=by refine fR (wp_mono h λx S1 ⟨n,xs,e,h1,h2⟩=>⟨n,_,e,h1,rfl,eh (wp_mono h2 λv S2 ⟨j,ys,e2,h3,h4,h5,q⟩=>gD ?_)⟩);subst e e2;refine ak ?_ q;simp only[fj,p8,oZ,h3,h4,big,h5,decide_true];rfl
theorem ints_map:∀is:List Int,iR (is.map .int)=some is
 | []=>rfl
 | i::is=>by simp only[List.map_cons,iR,ints_map is,Option.map_some]
theorem M5 {has:Nat->Nat->Bool}{call:Nat->Nat->List D->ae->R D}{m:Option Nat}(h:Wp (f ρ S) λx S1=>NO S1 x λn is=>Wp (g ρ S1) λv S2=>∃i,v = .int i/\S2[n]?=some (.lst (is.map D.int))/\i∈is/\Q .aj (S2.set n (.lst ((is.erase i).map .int)))):Wp (az has call m (some .remove) f [g] ρ S) Q:=by refine fR (wp_mono h λx S1 ⟨n,is,e,h1,h2⟩=>⟨n,_,e,h1,rfl,eh (wp_mono h2 λv S2 ⟨i,e2,h3,h4,q⟩=>gD ?_)⟩);subst e e2;refine ak ?_ q;simp only[fj,p8,pw,h3,ints_map,h4,decide_true];rfl
theorem Kg {has:Nat->Nat->Bool}{call:Nat->Nat->List D->ae->R D}{m:Option Nat}(h:Wp (f ρ S) λx S1=>LO S1 x λn xs=>Wp (g ρ S1) λu S2=>Wp (c' ρ S2) λv S3=>∃i,u = .int i/\S3[n]?=some (.lst xs)/\0<=i/\i.toNat<=xs.length/\xs.length<1000/\Q .aj (S3.set n (.lst (xs.take i.toNat++v::xs.drop i.toNat)))):Wp (az has call m (some .insert) f [g,c'] ρ S) Q:=by refine fR (wp_mono h λx S1 ⟨n,xs,e,h1,h2⟩=>⟨n,_,e,h1,rfl,eh (wp_mono h2 λu S2 h2=>eh (wp_mono h2 λv S3 ⟨i,e2,h3,h4,h5,h6,q⟩=>gD ?_))⟩);subst e e2;refine ak ?_ q;simp only[fj,p8,oV,h3,h4,h5,h6,decide_true,Bool.and_self];rfl
theorem Cv {has:Nat->Nat->Bool}{call:Nat->Nat->List D->ae->R D}{m:Option Nat}(h:Wp (f ρ S) λx S1=>NO S1 x λn is=>Wp (g ρ S1) λv S2=>∃i,v = .int i/\S2[n]?=some (.lst (is.map D.int))/\Q (.int (is.count i)) S2):Wp (az has call m (some .count) f [g] ρ S) Q:=by
 refine fR (wp_mono h λx S1 ⟨n,is,e,h1,h2⟩=>⟨n,_,e,h1,rfl,eh (wp_mono h2 λv S2 ⟨i,e2,h3,q⟩=>gD ?_)⟩);subst e e2;refine ak ?_ q;have ha:((is.map D.int).all bI)=true:=by simp[List.all_eq_true,bI]
 have hc:((is.map D.int).countP λx=>gG x (.int i))=is.count i:=by rw[List.countP_map,List.count];rfl
 simp only[fj,p8,rH,h3,ha,hc,bI,Bool.and_self];rfl
noncomputable def LE (S:ae)(x:D)(k:Nat->Prop):Prop:=ny S x=true/\∃n:Nat,oj S x=some n/\k n
theorem O7 {k:Nat->Prop}(h:S[n]?=some (.lst xs))(q:k xs.length):LE S (.ref n) k:=⟨by simp only[ny,h],xs.length,by simp only[oj,kvsOf,itemsOf,h,Option.map_some],q⟩
theorem Po {k:Nat->Prop}(h:S[n]?=some (.aN af))(q:k af.length):LE S (.ref n) k:=⟨by simp only[ny,h],af.length,by simp only[oj,kvsOf,h],q⟩
theorem Pm {k:Nat->Prop}(q:k xs.length):LE S (.tup xs) k:=⟨rfl,xs.length,rfl,q⟩
theorem KN {has:Nat->Nat->Bool}{call:Nat->Nat->List D->ae->R D}{m:Option Nat}(h:Wp (f ρ S) λx S1=>LE S1 x λn=>Q (.int n) S1):Wp (cX has call m f ρ S) Q:=nH (wp_mono h λ_ _ ⟨h1,n,h2,q⟩=>⟨h1,n,h2,q⟩)
theorem Pk (q:Q (.bl (decide (a = .aj))) S):Wp (bg .Is a .aj S) Q:=q
theorem NK (q:Q (.bl (!decide (a = .aj))) S):Wp (bg .IsNot a .aj S) Q:=q
theorem FH {kd:Kd}{b:Bool}(h:mI S kd a=some b)(q:Q (.bl b) S):Wp (d4 (mI S kd a) S) Q:=by rw[h];exact q
theorem Nx {kd:Kd}(h:mI S kd a=some true)(q:Q (.bl true) S):Wp (d4 (mI S kd a) S) Q:=by rw[h];exact q
theorem NJ {kd:Kd}(h:mI S kd a=some false)(q:Q (.bl false) S):Wp (d4 (mI S kd a) S) Q:=by rw[h];exact q
theorem O9 {i j:Int}(q:Q (.bl (decide (i<j))) S):Wp (bg .Lt (.int i) (.int j) S) Q:=q
theorem Pu {i j:Int}(q:Q (.bl (decide (i<=j))) S):Wp (bg .LtE (.int i) (.int j) S) Q:=q
theorem O6 {i j:Int}(q:Q (.bl (decide (j<i))) S):Wp (bg .Gt (.int i) (.int j) S) Q:=q
theorem HR (i j:Int):decide (D.int i = .int j)=decide (i=j):=by by_cases h:i=j<;>simp[h]
theorem JN (i j:Str):decide (D.str i = .str j)=decide (i=j):=by by_cases h:i=j<;>simp[h]
theorem PM {i j:Int}(q:Q (.bl (decide (i=j))) S):Wp (bg .Eq (.int i) (.int j) S) Q:=Fy rfl rfl (by rw[HR];exact q)
theorem sS {i j:Str}(q:Q (.bl (decide (i=j))) S):Wp (bg .Eq (.str i) (.str j) S) Q:=Fy rfl rfl (by rw[JN];exact q)
theorem Mm (h:S[n]?=some (.lst xs))(q:Q (.ref S.length) (S++[.lst xs])):Wp (bV .list [.ref n] S) Q:=ak (by simp only[bV,kvsOf,h,bz h,fI]) q
theorem Li (q:Q (.ref S.length) (S++[.lst xs])):Wp (bV .list [.tup xs] S) Q:=q
theorem aO {T:ae}{o:O}(h:S[i]?=some o):(S++T)[i]?=some o:=by rw[List.getElem?_append_left (aZ h)];exact h
theorem ky {o o':O}(h:S[i]?=some o)(hn:j≠i):(S.set j o')[i]?=some o:=by rw[List.getElem?_set_ne hn];exact h
theorem cR {W:Nat->Prop}{S1:ae}{o:O}(h:Fr W S S1)(hw:n<S.length->W n):Fr W S (S1.set n o):=⟨by rw[List.length_set];exact h.1,λi hi hn=>by rw[List.getElem?_set_ne (λe=>hn (by subst e;exact hw hi))];exact h.2 i hi hn⟩
theorem aU {W:Nat->Prop}{S1 T:ae}(h:Fr W S S1):Fr W S (S1++T):=⟨by rw[List.length_append];exact Nat.le_trans h.1 (Nat.le_add_right _ _),λi hi hn=>by rw[List.getElem?_append_left (Nat.lt_of_lt_of_le hi h.1)];exact h.2 i hi hn⟩
end RF
section
namespace Q41
open RF PySem
local macro_rules
 | `(tactic| ac_rfl)=>`(tactic| first
  | with_reducible assumption | with_reducible exact aG _ _ | ((with_reducible apply dA);ac_rfl) | ((with_reducible apply aO);ac_rfl) | ((with_reducible apply ky);(· ac_rfl);(· (try simp only[List.length_set,List.length_append,List.length_cons,List.length_nil]);omega)))
local macro_rules
 | `(tactic| rfl')=>`(tactic| repeat (first
 | with_reducible apply aF | with_reducible apply bO | with_reducible apply oN | with_reducible apply jd | with_reducible apply dH | with_reducible apply eD | with_reducible apply qY | with_reducible apply vK | with_reducible apply Dm | with_reducible apply xM | with_reducible apply vQ | with_reducible apply xG | with_reducible apply qm
 | ((with_reducible apply kh);· rfl) | with_reducible apply Et | with_reducible apply vR | with_reducible apply i8 | with_reducible apply Hi | with_reducible apply BK | with_reducible apply Hw | with_reducible apply wq_not | with_reducible apply Cc | with_reducible apply Ob | with_reducible apply wq_chain | with_reducible apply Oa | with_reducible apply gD | with_reducible apply eh | ((with_reducible refine CK ?_ ?_);· rfl) | ((with_reducible refine Cs ?_ ?_);· rfl) | with_reducible apply zw | with_reducible apply wp_call
 | with_reducible apply uC | with_reducible apply zi | ((with_reducible apply w6);· rfl) | with_reducible apply EC | with_reducible apply iJ | with_reducible apply zm | with_reducible apply IU | with_reducible apply Dj | with_reducible apply kD | with_reducible apply uo
 | with_reducible apply Kh | with_reducible apply L0 | with_reducible apply Jk | with_reducible apply Lk | with_reducible apply M5 | with_reducible apply Kg | with_reducible apply Cv | with_reducible apply MV | with_reducible apply zv | with_reducible apply KN
 | with_reducible apply tb | with_reducible apply EW | with_reducible apply qJ | with_reducible apply nJ | with_reducible apply Ej | with_reducible apply Pm
 | with_reducible apply Li | ((with_reducible apply Mm);(· ac_rfl)) | with_reducible apply Pk | with_reducible apply NK | with_reducible apply O9 | with_reducible apply Pu | with_reducible apply O6 | with_reducible apply ge_i | with_reducible apply PM | with_reducible apply ne_i
 | ((with_reducible apply JC);(· ac_rfl);(· rfl)) | ((with_reducible apply mo);(· ac_rfl);(· rfl)) | ((with_reducible apply lo);(· ac_rfl)) | ((with_reducible apply PN);(· ac_rfl)) | ((with_reducible apply PY);(· ac_rfl)) | ((with_reducible apply PZ);(· ac_rfl)) | ((with_reducible apply O7);(· ac_rfl)) | ((with_reducible apply Po);(· ac_rfl)) | ((with_reducible apply NH);· rfl) | ((with_reducible apply Nx);· rfl) | ((with_reducible apply NJ);· rfl) | ((with_reducible apply kW);(· ac_rfl);(· rfl)) | ((with_reducible apply OR);(· ac_rfl))
 | ((with_reducible apply ak (r:=fS _ _ _ _));· rfl)))
abbrev Row:=D×Int×Int
def kv (r:Row):D×D:=(r.1,.tup [.int r.2.1,.int r.2.2])
def line (r:Row):D:=.tup [r.1,.int r.2.1,.int r.2.2]
def bG (rows:List Row)(x:D):List Row:=rows.filter λr=>decide (r.1≠x)
def cY (rows:List Row):Prop:=(rows.map (·.1)).Nodup/\∀r∈rows,aM r.1
theorem mi {p:D}(h:p∈parts):∃s,p = .str s:=by obtain⟨x,_,rfl⟩:=List.mem_map.mp h;exact⟨_,rfl⟩
theorem cZ {x:D}(h:aM x):aY x=true:=by obtain⟨ps,rfl,_,_,h⟩:=h;simp only[aY,List.all_eq_true];intro p hp;obtain⟨s,rfl⟩:=mi (h p hp);rfl
theorem mn {x:D}(h:aM x):bK 2 x=true:=by obtain⟨ps,rfl,_,_,h⟩:=h;simp only[bK,List.all_eq_true];intro p hp;obtain⟨s,rfl⟩:=mi (h p hp);rfl
theorem kM {x:D}(h:aM x):eA x=false:=by
 obtain⟨ps,rfl,_,_,h⟩:=h
 match ps,h with
 | [],_=>rfl
 | [_],_=>rfl
 | [a,b],h=>obtain⟨s,rfl⟩:=mi (h b (by simp));rfl
 | _::b::_::_,_=>cases b<;>rfl
theorem jZ {af:List (D×D)}{x:D}(h:∀p∈af,aY p.1=true)(hx:aY x=true):cj af x=true:=by
 have:af.all (λkv=>aY kv.1)=true:=by rw[List.all_eq_true];exact h
 simp[cj,hx,this]
theorem fE {rows:List Row}{x:D}(h:∀r∈rows,aM r.1)(hx:aM x):cj (rows.map kv) x=true:=jZ (λp hp=>by obtain⟨r,hr,rfl⟩:=List.mem_map.mp hp;exact cZ (h r hr)) (cZ hx)
theorem pb {α:Type}(f:α->D×D)(l:List α)(x:D):cU (l.map f) x=(l.find? λr=>decide ((f r).1=x)).map λr=>(f r).2:=by unfold cU;rw[List.find?_map,Option.map_map];rfl
theorem gN (rows:List Row)(x:D):cU (rows.map kv) x=(rows.find? λr=>decide (r.1=x)).map λr=>.tup [.int r.2.1,.int r.2.2]:=pb kv rows x
theorem jj (rows:List Row)(x:D):iU (rows.map kv) x=(bG rows x).map kv:=by unfold iU bG;rw[List.filter_map];rfl
theorem iL {rows:List Row}(h:(rows.map (·.1)).Nodup){r:Row}(hr:r∈rows):(rows.find? λs=>decide (s.1=r.1))=some r:=by
 induction rows with
 | nil=>simp at hr
 | cons s rows ih=>
  simp only[List.map_cons,List.nodup_cons] at h;rcases List.mem_cons.mp hr with rfl | hr
  .simp
  .have:s.1≠r.1:=λe=>h.1 (e ▸ List.mem_map.mpr ⟨r,hr,rfl⟩);rw[List.find?_cons,decide_eq_false this];exact ih h.2 hr
theorem lM (rows:List Row)(x:D):∀r∈bG rows x,r.1≠x:=λr hr=>by simpa using(List.mem_filter.mp hr).2
theorem gP (rows:List Row)(x:D):(bG rows x).Sublist rows:=List.filter_sublist
theorem uO {rows:List Row}{x:D}(h:∀r∈rows,r.1≠x):bG rows x=rows:=by unfold bG;rw[List.filter_eq_self];intro r hr;simpa using h r hr
theorem nE {rows HE:List Row}(h:cY rows)(hs:HE.Sublist rows):cY HE:=⟨(hs.map _).nodup h.1,λr hr=>h.2 r (hs.subset hr)⟩
theorem xE {rows:List Row}{r:Row}(h:cY rows)(hn:∀s∈rows,s.1≠r.1)(hr:aM r.1):cY (rows++[r]):=by
 refine⟨?_,λs hs=>?_⟩
 .rw[List.map_append,List.nodup_append];refine⟨h.1,by simp,λa ha b hb=>?_⟩;obtain⟨s,hs,rfl⟩:=List.mem_map.mp ha;have:b=r.1:=by simpa using hb
  rw[this];exact hn s hs
 .rcases List.mem_append.mp hs with hs | hs
  .exact h.2 s hs
  .rw[List.mem_singleton.mp hs];exact hr
theorem zz {af:List (D×D)}{k v:D}(hn:∀p∈af,p.1≠k):putD af k v=af++[(k,v)]:=by unfold putD;rw[if_neg];simp only[List.any_eq_true,not_exists,not_and];intro s hs;rw[decide_eq_false (hn s hs)];decide
theorem xr {rows:List Row}{r:Row}(hn:∀s∈rows,s.1≠r.1):putD (rows.map kv) r.1 (.tup [.int r.2.1,.int r.2.2])=(rows++[r]).map kv:=by
 rw[zz]
 .simp[kv]
 .intro p hp;obtain⟨s,hs,rfl⟩:=List.mem_map.mp hp;exact hn s hs
theorem Ak (n:Nat)(i:Int)(S:ae)(h1:0<=i)(h2:i<=7):(ag P (n+3)).f 3 [.int i] S = .ok (.bl true) S:=by rw[CV];apply bE;apply aK;unfold ub;rfl';refine ak (ig _ _ _ _ _ h1 h2) ?_;exact⟨rfl,rfl⟩
theorem tY:∀(l σ:List Int),l.Nodup->(∀x∈l,x∉σ)->(l.foldl (λσ k=>if σ.any (· == k) then σ else σ++[k]) σ).length=σ.length+l.length
 | [],σ,_,_=>rfl
 | x::l,σ,hn,hx=>by
  rw[List.nodup_cons] at hn;have:(σ.any (· == x))=false:=by rw[List.any_eq_false];intro y hy;have:=hx x List.mem_cons_self;simp;exact λe=>this (e ▸ hy)
  rw[List.foldl_cons,this,if_neg (by decide),tY l (σ++[x]) hn.2 λy hy h=>?_]
  .simp;omega
  .rcases List.mem_append.mp h with h | h
   .exact hx y (List.mem_cons_of_mem _ hy) h
   .rw[List.mem_singleton.mp h] at hy;exact hn.1 hy
theorem C5 {l:List Int}(h:l.Nodup):unlike l=l.length:=by unfold unlike;rw[tY l [] h (by simp)];simp
def gW (l:List Int):Prop:=l.Nodup/\l.length<=8/\∀i∈l,0<=i/\i<=7
theorem mU (n s:Nat)(l:List Int)(S:ae)(h:S[s]?=some (.lst (l.map .int)))(hl:gW l):(ag P (n+5)).f 9 [.ref s] S = .ok .aj S:=by
 have h1:(ag P (n+4)).f 5 [.ref s] S = .ok (.bl true) S:=by
  rw[Bh];apply bE;apply aK;unfold rJ;rfl';refine FH (b:=true) (by simp only[mI,h];rfl) ?_;rfl';refine ak (a:=(l.map D.int).map λ_=>D.bl true) (S:=S) ?_ ⟨_,rb _,?_⟩
  .show aE true (iu [0] true always (bL (ao ((ag P (n+3)).f 3) [aa 0])) [none,some (.ref s)] [] (.ref s) S)=_;unfold iu;simp only[h];have hc:eZ (.ref s) (l.map D.int) S=true:=decide_eq_true (bz h);rw[kB (f:=λ_=>true) (h:=λ_=>.bl true) hc (l.map D.int) [] (λx hx=>⟨rfl,?_⟩) (by unfold sizeLine;simp;have:=hl.2.1;omega)]
   .have:((l.map D.int).filter λ_=>true)=l.map D.int:=List.filter_eq_self.mpr λ_ _=>rfl;rw[this];rfl
   .obtain⟨i,hi,rfl⟩:=List.mem_map.mp hx;show (ag P (n+3)).f 3 [.int i] S=_;exact Ak _ _ _ (hl.2.2 i hi).1 (hl.2.2 i hi).2
  have ha:(List.all (List.map (λ_=>true) (l.map D.int)) id)=true:=by simp
  rw[ha];rfl';refine ak (r:=pB _ _ _) (a:=.int l.length) (S:=S) ?_ ?_
  .show lu (.ref s) S=_;simp only[lu,h,ints_map,C5 hl.1];have:decide (l.length<=1000)=true:=decide_eq_true (by have:=hl.2.1;omega);rw[this];rfl
  rfl';exact⟨by simp,rfl⟩
 rw[vW];apply bE;apply aK;unfold ot;rfl';refine ak h1 ?_;rfl';exact⟨rfl,rfl⟩
def oG (x:D):Prop:=aM x\/x = .tup []
theorem yK (n:Nat)(x:D)(S:ae)(h:oG x):(ag P (n+4)).f 14 [x] S = .ok .aj S:=by
 have h1:(ag P (n+3)).f 12 [x] S = .ok (.bl true) S:=by
  rw[tq];apply bE;apply aK;unfold lx;rfl';rcases h with h | rfl
  .refine ak (jA _ _ _ h) ?_;rfl';exact⟨rfl,rfl⟩
  .refine ak (a:=.bl false) (S:=S) ?_ ?_
   .rw[uJ];kernel_rfl
   rfl';exact⟨rfl,rfl⟩
 rw[ql];apply bE;apply aK;unfold kc;rfl';refine ak h1 ?_;rfl';exact⟨rfl,rfl⟩
theorem zb {x:D}(h:oG x):aY x=true:=by
 rcases h with h | rfl
 .exact cZ h
 .rfl
theorem FY {x:D}(h:oG x):eA x=false:=by
 rcases h with h | rfl
 .exact kM h
 .rfl
theorem l6 {chk:ae->Bool}{i:Nat}{t:C Bool}{e:C D}{ρ:RF.Env}{S:ae}{f:D->Bool}{h:D->D}(hc:chk S=true):∀(xs acc:List D),(∀x∈xs,t (ρ.set i (some x)) S = .ok (f x) S/\(f x=true->e (ρ.set i (some x)) S = .ok (h x) S))->acc.length+xs.length<sizeLine ->
 bB chk [i] true t (bL e) ρ xs acc S = .ok (acc++(xs.filter f).map h) S
 | [],acc,_,_=>by unfold bB;rw[if_pos hc];simp
 | x::xs,acc,hx,hl=>by
  obtain⟨h1,h2⟩:=hx x (List.mem_cons_self ..);rw[List.length_cons] at hl;unfold bB;rw[if_pos hc];show (t (ρ.set i (some x)) S).bind _=_;rw[h1,R.bJ]
  by_cases q:f x=true
  .rw[if_pos q];have:bL e acc (ρ.set i (some x)) S = .ok (acc++[h x]) S:=by unfold bL aE;rw[if_pos (decide_eq_true (by omega)),h2 q,R.bJ]
   rw[this,R.bJ,l6 hc xs _ (λy hy=>hx y (List.mem_cons_of_mem _ hy)) (by rw[List.length_append,List.length_singleton];omega),List.filter_cons,if_pos q];simp
  .rw[if_neg q,l6 hc xs _ (λy hy=>hx y (List.mem_cons_of_mem _ hy)) (by omega),List.filter_cons,if_neg q]
def CL (S:ae)(ρ:RF.Env)(t:C Bool)(e:C D)(x:D)(k:List D->Prop):Prop:=∃n xs f g,x = .ref n/\S[n]?=some (.lst xs)/\xs.length<sizeLine/\(∀y∈xs,t (some y::ρ) S = .ok (f y) S/\(f y=true->e (some y::ρ) S = .ok (g y) S))/\k ((xs.filter f).map g)
theorem cl {S:ae}{ρ:RF.Env}{t:C Bool}{e:C D}{n:Nat}{xs:List D}{k:List D->Prop}(h:S[n]?=some (.lst xs))(hl:xs.length<sizeLine)(f:D->Bool)(g:D->D)(he:∀y∈xs,t (some y::ρ) S = .ok (f y) S/\(f y=true->e (some y::ρ) S = .ok (g y) S))(q:k ((xs.filter f).map g)):CL S ρ t e (.ref n) k:=⟨n,xs,f,g,rfl,h,hl,he,q⟩
theorem Gk {ρ:RF.Env}{S:ae}{c:C D}{t:C Bool}{e:C D}{Q:List D->ae->Prop}(h:Wp (c ρ S) λx S1=>CL S1 ρ t e x λys=>Q ys S1):Wp (ie 1 (.dyn c) [0] true t (bL e) [] ρ S) Q:=by refine cx (by simp[blank,inner]) (wp_bind (wp_mono h λx S1 ⟨n,xs,f,g,e1,h1,hl,he,q⟩=>?_));subst e1;unfold iu;simp only[h1];refine(ak (l6 (f:=f) (h:=g) (decide_eq_true (bz h1)) xs [] he (by simpa using hl)) ?_);simpa using q
theorem fk {ρ:RF.Env}{S:ae}{c:C D}{t:C Bool}{e:C D}{Q:D->ae->Prop}(h:Wp (c ρ S) λx S1=>CL S1 ρ t e x λys=>Q (.ref S1.length) (S1++[.lst ys])):Wp (cK 1 (.dyn c) [0] true t e ρ S) Q:=wp_bind (Gk h)
def CD (S:ae)(ρ:RF.Env)(t:C Bool)(e:C D)(x:D)(k:List D->Prop):Prop:=∃n af f g,x = .ref n/\S[n]?=some (.aN af)/\af.length<sizeLine/\(∀p∈af,aY p.1=true)/\(∀p∈af,t (some p.1::ρ) (S.set n (.c7 af)) = .ok (f p.1) (S.set n (.c7 af))/\(f p.1=true->e (some p.1::ρ) (S.set n (.c7 af)) = .ok (g p.1) (S.set n (.c7 af))))/\k (((af.map (·.1)).filter f).map g)
theorem cd {S:ae}{ρ:RF.Env}{t:C Bool}{e:C D}{n:Nat}{af:List (D×D)}{k:List D->Prop}(h:S[n]?=some (.aN af))(hl:af.length<sizeLine)(hk:∀p∈af,aY p.1=true)(f:D->Bool)(g:D->D)(he:∀p∈af,t (some p.1::ρ) (S.set n (.c7 af)) = .ok (f p.1) (S.set n (.c7 af))/\(f p.1=true->e (some p.1::ρ) (S.set n (.c7 af)) = .ok (g p.1) (S.set n (.c7 af))))(q:k (((af.map (·.1)).filter f).map g)):CD S ρ t e (.ref n) k:=⟨n,af,f,g,rfl,h,hl,hk,he,q⟩
theorem Eg {S:ae}{n:Nat}{o o':O}(h:S[n]?=some o):(S.set n o').set n o=S:=by rw[List.set_set];obtain⟨h1,h2⟩:=List.getElem?_eq_some_iff.mp h;rw[<-h2];simp
theorem set_same {S:ae}{n:Nat}{o:O}(h:S[n]?=some o):S=S.set n o:=by obtain⟨h1,h2⟩:=List.getElem?_eq_some_iff.mp h;rw[<-h2];simp
theorem Fh {ρ:RF.Env}{S:ae}{c:C D}{t:C Bool}{e:C D}{Q:D->ae->Prop}(h:Wp (c ρ S) λx S1=>CD S1 ρ t e x λys=>Q (.ref S1.length) (S1++[.lst ys])):Wp (cK 1 (.dyn c) [0] true t e ρ S) Q:=by
 refine wp_bind (cx (by simp[blank,inner]) (wp_bind (wp_mono h λx S1 ⟨n,af,f,g,e1,h1,hl,hk,he,q⟩=>?_)));subst e1;unfold iu;simp only[h1];refine cx (List.all_eq_true.mpr hk) (wp_bind ((ak (l6 (f:=f) (h:=g) rfl (af.map (·.1)) [] (λy hy=>?_) (by simpa using hl)) ?_)))
 .obtain⟨p,hp,rfl⟩:=List.mem_map.mp hy;exact he p hp
 .simp only[dA h1,Eg h1];show Q _ _;simpa using q
def KS (k:Nat)(room:Int)(rows:List Row)(S:ae):Prop:=S[k]?=some (.obj 0 [(29,.int room),(21,.ref (k+1))])/\S[k+1]?=some (.aN (rows.map kv))
theorem Az (n k:Nat)(room:Int)(S:ae)(hk:k=S.length)(h1:0<=room)(h2:room<=9):(ag P (n+4)).m 0 0 [.ref k,.int room] (S++[.obj 0 []]) = .ok .aj (S++[.obj 0 [(29,.int room),(21,.ref (k+1))],.aN []]):=by subst hk;rw[wx];apply bE;apply aK;unfold ng;rfl';refine ak (gg n _ _ _ _ h1 h2) ?_;rfl';simp[d6]
def iI (room:Int)(rows:List Row)(x:D)(v u now:Int):List Row:=
 if (((if u > now then bG rows x++[(x,v,u)] else bG rows x).length:Nat):Int) > room then (if u > now then bG rows x++[(x,v,u)] else bG rows x).drop 1 else (if u > now then bG rows x++[(x,v,u)] else bG rows x)
theorem MX {n k:Nat}{room:Int}{rows:List Row}{x:D}{v u now:Int}{S:ae}(h:KS k room rows S)(hr:cY rows)(hl:(rows.length:Int)<=room)(hroom:room<=9)(hx:aM x)(v1:0<=v)(v2:v<=999)(u1:0<=u)(w1:0<=now):
 Wp ((ag P (n+5)).m 0 27 [.ref k,x,.int v,.int u,.int now] S) λr S'=>r = .aj/\∃T,S'=S.set (k+1) (.aN ((iI room rows x v u now).map kv))++T:=by
 obtain⟨h1,h2⟩:=h;have hkl:=aZ h2;have eJ:k≠k+1:=by omega
 generalize hR:(λ(r:D) (S':ae)=>r = .aj/\∃T,S'=S.set (k+1) (.aN ((iI room rows x v u now).map kv))++T)=R;have hd:cY (bG rows x):=nE hr (gP _ _);have hdl:((bG rows x).length:Int)<=room:=by have:=(gP rows x).length_le;omega
 have hb:∀(rs:List Row) (S2:ae),rs=(if u > now then bG rows x++[(x,v,u)] else bG rows x)->cY rs->S2=S.set (k+1) (.aN (rs.map kv))->Wf (ah [(bA (av (aB .Gt (cX T.aJ (ag P (n+4)).m (some 1) (aH (aa 0) 21)) (aH (aa 0) 29))) (ah [(oe (aH (aa 0) 21) (bQ (ao (bV .list) [(aH (aa 0) 21)]) (cE (.int 0))))]) (ah []))]
  [some (.ref k),some x,some (.int v),some (.int u),some (.int now)] S2) { nx:=λ_ S'=>R .aj S',rt:=R }:=by
  intro rs S2 ers D1 e2;have hp:iI room rows x v u now=if ((rs.length:Nat):Int) > room then rs.drop 1 else rs:=by rw[ers];rfl
  have k1:S2[k]?=some (.obj 0 [(29,.int room),(21,.ref (k+1))]):=by rw[e2];ac_rfl
  have k2:S2[k+1]?=some (.aN (rs.map kv)):=by rw[e2];ac_rfl
  rfl';refine f7 (λhc=>?_) (λhc=>?_)
  .have hc:((rs.length:Nat):Int) > room:=by simpa using hc
   cases rs with
   | nil=>simp at hc;omega
   | cons r rs=>
    rfl';have gb:∀p∈(r::rs).map kv,aY p.1=true:=λp hp=>by obtain⟨r,hr,rfl⟩:=List.mem_map.mp hp;exact cZ (D1.2 r hr)
    refine ak (a:=.ref S2.length) (S:=S2++[.lst (((r::rs).map kv).map λp:D×D=>p.1)]) ?_ ?_
    .have:kvsOf S2 (.ref (k+1))=some ((r::rs).map kv):=by simp only[kvsOf,k2]
     simp only[bV,this,List.all_eq_true.mpr gb];rfl
    rfl';refine sC (aG _ _) (v:=r.1) (by simp[j9,sj,kv]) ?_;have jz:bG (r::rs) r.1=rs:=by have hn:=D1.1;simp only[List.map_cons,List.nodup_cons] at hn;have:bG rs r.1=rs:=uO λs hs e=>hn.1 (e ▸ List.mem_map.mpr ⟨s,hs,rfl⟩);unfold bG at this ⊢;rw[List.filter_cons,if_neg (by simp)];exact this
    refine Hd (aO k2) (fE D1.2 (D1.2 r List.mem_cons_self)) (by rw[gN,iL D1.1 List.mem_cons_self];rfl) ?_;rw[jj,jz];rfl';rw[<-hR];refine⟨rfl,[.lst (((r::rs).map kv).map λp:D×D=>p.1)],?_⟩;rw[hp,if_pos hc,List.set_append_left _ _ (by rw[e2];simp;exact hkl),e2,List.set_set];rfl
  .have hc:¬((rs.length:Nat):Int) > room:=by simpa using hc
   rfl';rw[<-hR,hp,if_neg hc];exact⟨rfl,[],by simp[e2]⟩
 have ha:∀(S1:ae),S1=S.set (k+1) (.aN ((bG rows x).map kv))->Wf (ah [bA (av (aB .Gt (aa 3) (aa 4))) (ah [(iw (aH (aa 0) 21) (aa 1) (bp [(aa 2),(aa 3)]))]) (ah []),(bA (av (aB .Gt (cX T.aJ (ag P (n+4)).m (some 1) (aH (aa 0) 21)) (aH (aa 0) 29))) (ah [(oe (aH (aa 0) 21) (bQ (ao (bV .list) [(aH (aa 0) 21)]) (cE (.int 0))))]) (ah []))]
  [some (.ref k),some x,some (.int v),some (.int u),some (.int now)] S1) { nx:=λ_ S'=>R .aj S',rt:=R }:=by
  intro S1 e1;have k1:S1[k]?=some (.obj 0 [(29,.int room),(21,.ref (k+1))]):=by rw[e1];ac_rfl
  have k2:S1[k+1]?=some (.aN ((bG rows x).map kv)):=by rw[e1];ac_rfl
  apply aF;apply dH;rfl';refine f7 (λhc=>?_) (λhc=>?_)
  .apply aF;apply xM;rfl';refine vD k2 (kM hx) (fE hd.2 hx) (by simp[sizeLine];omega) ?_;rw[xr (r:=(x,v,u)) (lM rows x)];apply bO;exact hb (bG rows x++[(x,v,u)]) _ (by rw[if_pos hc]) (xE hd (lM rows x) hx) (by rw[e1,List.set_set])
  .apply bO;exact hb (bG rows x) _ (by rw[if_neg hc]) hd e1
 rw[yB];apply aK;unfold pK;rfl';refine ak (ip (n+1) x S hx) ?_;rfl';refine ak (vd n v S v1 v2) ?_;rfl';refine ak (dZ (n+1) u S u1) ?_;rfl';refine ak (dZ (n+1) now S w1) ?_;apply aF;apply dH;rfl';refine E6 h2 (fE hr.2 hx) ?_;rfl';refine⟨λhc=>?_,λhc=>?_⟩
 .apply aF;apply vQ;rfl';refine Hd h2 (fE hr.2 hx) hc ?_;rw[jj];apply bO;exact ha _ rfl
 .apply bO;have kO:∀r∈rows,r.1≠x:=by rw[gN] at hc;intro r lU e;subst e;rw[iL hr.1 lU] at hc;simp at hc
  refine ha _ ?_;rw[uO kO];exact set_same h2
def gy (rows:List Row)(x:D)(now:Int):Option Row:=rows.find? λr=>decide (r.1=x)&&decide (now<r.2.2)
def fH (rows:List Row)(x:D)(now:Int):List Row:=match gy rows x now with
 | some r=>bG rows x++[r]
 | none=>rows
theorem xD {rows:List Row}{x:D}{now:Int}(h:∀r∈rows,r.1=x->r.2.2<=now):gy rows x now=none:=by unfold gy;rw[List.find?_eq_none];intro r hr;have:=h r hr;simp only[Bool.and_eq_true,decide_eq_true_eq,not_and];intro e;have:=this e;omega
theorem E9 {rows:List Row}(hn:(rows.map (·.1)).Nodup){r:Row}{now:Int}(hr:r∈rows)(h:now<r.2.2):gy rows r.1 now=some r:=by
 unfold gy
 induction rows with
 | nil=>simp at hr
 | cons s rows ih=>
  simp only[List.map_cons,List.nodup_cons] at hn;rcases List.mem_cons.mp hr with rfl | hr
  .simp[h]
  .have:s.1≠r.1:=λe=>hn.1 (e ▸ List.mem_map.mpr ⟨r,hr,rfl⟩);rw[List.find?_cons,decide_eq_false this,Bool.false_and];exact ih hn.2 hr
theorem KQ {n k:Nat}{room:Int}{rows:List Row}{x:D}{now:Int}{S:ae}(h:KS k room rows S)(hr:cY rows)(hb:rows.length<=9)(hx:aM x)(w1:0<=now):
 Wp ((ag P (n+4)).m 0 16 [.ref k,x,.int now] S) λv S'=>v=(match gy rows x now with | some r=>.tup [.int r.2.1,.int r.2.2] | none=>.aj)/\S'=S.set (k+1) (.aN ((fH rows x now).map kv)):=by
 obtain⟨h1,h2⟩:=h;have hkl:=aZ h2;rw[yp];apply aK;unfold p5;rfl';refine ak (ip n x S hx) ?_;rfl';refine ak (dZ n now S w1) ?_;rfl';refine Hj h2 (fE hr.2 hx) ?_;rfl';rw[gN];cases hf:rows.find? λr=>decide (r.1=x) with
 | none=>
  have e:gy rows x now=none:=xD λr lU e=>by have:=List.find?_eq_none.mp hf r lU;simp[e] at this
  refine nJ ?_;rfl';refine⟨by rw[e],?_⟩;unfold fH;rw[e];exact set_same h2
 | some r=>
  have hm:=List.mem_of_find?_eq_some hf;have he:r.1=x:=by simpa using List.find?_some hf
  subst he;refine qJ ?_;rfl';have hv:cU (rows.map kv) r.1=some (.tup [.int r.2.1,.int r.2.2]):=by rw[gN,hf];rfl
  refine sE h2 (fE hr.2 hx) hv ?_;rfl';refine f7 (λhc=>?_) (λhc=>?_)
  .have e:gy rows r.1 now=none:=xD λs hs e=>by
    have:s=r:=by have h3:=iL hr.1 hs;rw[e,hf] at h3;cases h3;rfl
    rw[this];exact hc
   rfl';refine⟨by rw[e],?_⟩;unfold fH;rw[e];exact set_same h2
  .have e:gy rows r.1 now=some r:=E9 hr.1 hm (by omega);rfl';refine⟨h2,cZ hx,fE hr.2 hx,_,hv,?_⟩;rfl';have hd:cY (bG rows r.1):=nE hr (gP _ _);refine vD (dA h2) (kM hx) (by rw[jj];exact fE hd.2 hx) ?_ ?_
   .rw[jj,List.length_map];have:=(gP rows r.1).length_le;unfold sizeLine;omega
   rfl';refine⟨by rw[e],?_⟩;unfold fH;rw[e,List.set_set,jj,xr (lM rows r.1)]
theorem HX {n k:Nat}{room:Int}{rows:List Row}{S:ae}(h:KS k room rows S)(hr:cY rows)(hb:rows.length<=9):
 Wp ((ag P (n+1)).m 0 30 [.ref k] S) λv S'=>v = .ref S.length/\S'=S++[.lst (rows.map line)]:=by
 obtain⟨h1,h2⟩:=h;have hkl:=aZ h2;rw[wy];apply aK;unfold oo;apply aF;apply jd;apply Fh;rfl';have hk:∀p∈rows.map kv,aY p.1=true:=λp hp=>by obtain⟨r,lU,rfl⟩:=List.mem_map.mp hp;exact cZ (hr.2 r lU)
 refine cd h2 (by simp[sizeLine];omega) hk (λ_=>true) (λx=>(rows.find? λr=>decide (r.1=x)).elim .aj line) (λp hp=>⟨rfl,λ_=>?_⟩) ?_
 .obtain⟨r,lU,rfl⟩:=List.mem_map.mp hp;have hv:cU (rows.map kv) (kv r).1=some (.tup [.int r.2.1,.int r.2.2]):=by rw[gN];show Option.map _ (rows.find? λs=>decide (s.1=r.1))=_;rw[iL hr.1 lU];rfl
  apply bE;rfl';refine AJ (dA h2) (hk _ hp) hv ?_;rfl';refine AJ (dA h2) (hk _ hp) hv ?_;rfl';refine⟨?_,rfl⟩;show line r=(rows.find? λs=>decide (s.1=r.1)).elim .aj line;rw[iL hr.1 lU];rfl
 .refine⟨rfl,?_⟩
  congr 3
  rw[List.filter_eq_self.mpr (by simp),List.map_map,List.map_map];apply List.map_congr_left;intro r lU;show (rows.find? λs=>decide (s.1=r.1)).elim .aj line=line r;rw[iL hr.1 lU];rfl
def jv (p:D×List Int):D×D:=(p.1,.tup (p.2.map .int))
def jW (l:List (D×List Int)):Prop:=∀p∈l,oG p.1/\gW p.2
theorem oh {l:List (D×List Int)}(h:jW l):∀p∈l.map jv,aY p.1=true:=λp hp=>by obtain⟨r,hr,rfl⟩:=List.mem_map.mp hp;exact zb (h r hr).1
def eG (l:List (D×List Int))(x:D):Option (List Int):=(l.find? λp=>decide (p.1=x)).map (·.2)
theorem xl (l:List (D×List Int))(x:D):cU (l.map jv) x=(eG l x).map λs=>.tup (s.map .int):=by rw[pb,eG,Option.map_map];rfl
def dX (l:List (D×List Int))(ps:List D):Nat->Option (D×List Int)
 | 0=>(eG l (.tup (ps.take 0))).map λs=>(.tup (ps.take 0),s)
 | m+1=>match eG l (.tup (ps.take (m+1))) with
  | some s=>some (.tup (ps.take (m+1)),s)
  | none=>dX l ps m
def partsOf:D->List D
 | .tup ps=>ps
 | _=>[]
def c8 (l:List (D×List Int))(x:D):List Int:=((dX l (partsOf x) (partsOf x).length).map (·.2)).getD []
def TS (t:Nat)(l:List (D×List Int))(S:ae):Prop:=S[t]?=some (.obj 1 [(18,.ref (t+1))])/\S[t+1]?=some (.aN (l.map jv))
theorem w9 {ps:List D}(h:∀p∈ps,p∈parts)(m:Nat):aY (.tup (ps.take m))=true:=by simp only[aY,List.all_eq_true];intro p hp;obtain⟨s,rfl⟩:=mi (h p (List.mem_of_mem_take hp));rfl
theorem EN (n:Nat):(gK n).length=n+1:=by simp[gK]
theorem Ed {n i:Nat}{x:D}(h:(gK n)[i]?=some x):i<=n/\x = .int (((n-i:Nat):Int)):=by
 unfold gK at h;rw[List.getElem?_map] at h;cases hi:(List.range (n+1))[i]? with
 | none=>simp[hi] at h
 | some k=>
  obtain⟨h1,h2⟩:=List.getElem?_eq_some_iff.mp hi;simp at h1 h2;subst h2;rw[hi] at h;refine⟨by omega,?_⟩;have:x = .int ((n:Int)-(i:Int)):=by simpa using h.symm
  rw[this]
  congr 1
  omega
theorem Jo {ρ:RF.Env}{S:ae}{K:En}{a:C D}{is:List Nat}{one:Bool}{b:CS}(h:Wp (a ρ S) λx S1=>∃j:Nat,x = .int j/\j<=1000/\Wf (forL is one b (gK j) ρ S1) K):Wf (gM (.down a) is one b ρ S) K:=dJ (wp_mono h λx S1 ⟨j,e,hg,h⟩=>by
 subst e;have:(0:Int)<=(j:Int)/\(j:Int)<=1000:=by omega
 simp only[if_pos this];exact h)
def tB (l:List (D×List Int))(ps:List D)(S:ae)(v:D)(S':ae):Prop:=match dX l ps ps.length with
 | some (b,s)=>v = .tup [b,.ref S.length]/\S'=S++[.lst (s.map .int)]
 | none=>v = .aj/\S'=S
theorem Kc {n t:Nat}{l:List (D×List Int)}{x:D}{S:ae}(h:TS t l S)(ho:jW l)(hx:aM x):
 Wp ((ag P (n+4)).m 1 42 [.ref t,x] S) (tB l (partsOf x) S):=by
 obtain⟨h1,h2⟩:=h;have xV:=hx;obtain⟨ps,rfl,l1,l2,hp⟩:=xV;rw[yJ];apply aK;unfold pN;rfl';refine ak (ip n _ S hx) ?_;apply aF;apply Jo;rfl';refine⟨ps.length,rfl,by omega,?_⟩;refine lI (Inv:=λi ρ S'=>S'=S/\(∃r2 r3,ρ=[some (.ref t),some (.tup ps),r2,r3])/\(i<=ps.length->dX l ps ps.length=dX l ps (ps.length-i))/\(i=ps.length+1->dX l ps ps.length=none)) ⟨rfl,⟨_,_,rfl⟩,λ_=>rfl,λh=>by omega⟩ (λ_ _ _ _ _=>rfl) (λi y ρ S' hy hI=>?_) (λρ S' hI=>?_)
 .obtain⟨rfl,⟨r2,r3,rfl⟩,hw,_⟩:=hI;obtain⟨hi,rfl⟩:=Ed hy;have hw:=hw hi;refine⟨_,rfl,?_⟩;show Wf (ah _ [some (.ref t),some (.tup ps),some (.int ((ps.length-i:Nat):Int)),r3] S') _;apply aF;apply eD;have hs:Wp (j5 (aa 1) none (some (aa 2)) [some (.ref t),some (.tup ps),some (.int ((ps.length-i:Nat):Int)),r3] S') λv S1=>v = .tup (ps.take (ps.length-i))/\S1=S':=by
   refine ak (a:=.tup (ps.take (ps.length-i))) (S:=S') ?_ ⟨rfl,rfl⟩;show R.ok (D.tup (cutD ps none (some ((ps.length-i:Nat):Int)))) S'=_;unfold cutD a9;have:¬(((ps.length-i:Nat):Int)<0):=by omega
   have e:min ((ps.length-i:Nat):Int).toNat ps.length=ps.length-i:=by omega
   simp only[if_neg this,e];simp
  refine wp_mono hs λv S1 ⟨ev,e1⟩=>?_;subst ev e1;rfl';refine E6 h2 (jZ (oh ho) (w9 hp _)) ?_;rfl';rw[xl];cases hl:eG l (.tup (ps.take (ps.length-i))) with
  | some s=>
   have hway:dX l ps ps.length=some (.tup (ps.take (ps.length-i)),s):=by
    rw[hw];cases hm:ps.length-i with
    | zero=>rw[hm] at hl;simp only[dX,hl,Option.map_some]
    | succ m=>rw[hm] at hl;simp only[dX,hl]
   refine qJ ?_;rfl';refine sE h2 (jZ (oh ho) (w9 hp _)) (by rw[xl,hl];rfl) ?_;rfl';show tB l ps S1 _ _;unfold tB;rw[hway];exact⟨rfl,rfl⟩
  | none=>
   refine nJ ?_;rfl';refine⟨rfl,⟨_,_,rfl⟩,λh=>?_,λh=>?_⟩
   .rw[hw];obtain⟨m,hm⟩:∃m,ps.length-i=m+1:=⟨ps.length-i-1,by omega⟩;rw[hm] at hl ⊢;have:ps.length-(i+1)=m:=by omega
    rw[this];simp only[dX,hl]
   .have:ps.length-i=0:=by omega
    rw[hw,this];rw[this] at hl;simp only[dX,hl,Option.map_none]
 .obtain⟨rfl,⟨r2,r3,rfl⟩,_,hw⟩:=hI;have hw:=hw (EN _);rfl';show tB l ps S' _ _;unfold tB;rw[hw];exact⟨rfl,rfl⟩
theorem FP {n t:Nat}{l:List (D×List Int)}{x:D}{S:ae}(h:TS t l S)(ho:jW l)(hx:aM x):
 (ag P (n+5)).m 1 31 [.ref t,x] S = .ok (.ref S.length) (S++[.lst ((c8 l x).map .int)]):=by
 obtain⟨h1,h2⟩:=h;rw[vc];apply bE;apply aK;unfold mH;rfl';refine wp_mono (Kc (n:=n) ⟨h1,h2⟩ ho hx) λv S' hv=>?_;unfold tB at hv;cases hw:dX l (partsOf x) (partsOf x).length with
 | none=>rw[hw] at hv;obtain⟨rfl,rfl⟩:=hv;rfl';refine d9 rfl ?_;rfl';refine⟨rfl,?_⟩;unfold c8;rw[hw];rfl
 | some p=>obtain⟨b,s⟩:=p;rw[hw] at hv;obtain⟨rfl,rfl⟩:=hv;rfl';refine jr (λe=>by cases e) ?_;rfl';refine⟨rfl,?_⟩;unfold c8;rw[hw];rfl
def mz (l:List (D×List Int))(b:D)(s:List Int):List (D×List Int):=if l.any (λp=>decide (p.1=b))=true then l.map λp=>if p.1=b then (p.1,s) else p else l++[(b,s)]
theorem EX (l:List (D×List Int))(b:D)(s:List Int):putD (l.map jv) b (.tup (s.map .int))=(mz l b s).map jv:=by
 unfold putD mz;rw[List.any_map];have:((λkv:D×D=>decide (kv.1=b)) ∘ jv)=λp:D×List Int=>decide (p.1=b):=rfl;rw[this];split
 .rw[List.map_map,List.map_map];apply List.map_congr_left;intro p _;show (if p.1=b then (p.1,D.tup (s.map D.int)) else jv p)=jv (if p.1=b then (p.1,s) else p);split<;>rfl
 .rw[List.map_append];rfl
theorem JF {n t s:Nat}{l:List (D×List Int)}{b:D}{kP:List Int}{S:ae}(h:TS t l S)(ho:jW l)(hb:oG b)(hl:l.length<1000)(h3:S[s]?=some (.lst (kP.map .int)))(hs:gW kP):
 (ag P (n+6)).m 1 27 [.ref t,b,.ref s] S = .ok .aj (S.set (t+1) (.aN ((mz l b kP).map jv))):=by
 obtain⟨h1,h2⟩:=h;rw[yt];apply bE;apply aK;unfold pQ;rfl';refine ak (yK (n+1) _ S hb) ?_;rfl';refine ak (mU n _ _ S h3 hs) ?_;rfl';refine ak (a:=.tup (kP.map .int)) (S:=S) (by simp only[bV,bz h3]) ?_;rfl';refine vD h2 (FY hb) (jZ (oh ho) (zb hb)) (by simp[sizeLine];omega) ?_;rfl';rw[EX];exact⟨rfl,rfl⟩
structure WA where
 nm:D
 since:Int
 aS:List D
 asked:List Int
 gz:List Int
structure HA where
 num:Int
 near:List Int
 room:Int
 pat:Int
 kept:List Row
 held:List (D×List Int)
 things:List Row
 fM:List (D×Int×Int×Int)
 ends:List D
abbrev WL:=List (WA×Nat)
def eB (p:WA×Nat):D×D:=(p.1.nm,.ref p.2)
def ir (r:D×Int×Int×Int):D×D:=(.tup [r.1,.int r.2.1],.tup [.int r.2.2.1,.int r.2.2.2])
abbrev tJ (w:Nat)(since:Int):O:=.obj 2 [(32,.int since),(6,.ref (w+1)),(5,.ref (w+2)),(23,.ref (w+3))]
abbrev LV (h:Nat)(num pat:Int):O:=.obj 3 [(33,.ref (h+1)),(24,.int num),(7,.ref (h+3)),(25,.int pat),(22,.ref (h+4)),(35,.ref (h+6)),(40,.ref (h+7)),(17,.ref (h+8)),(12,.ref (h+9))]
structure nL (S:ae)(x:WA)(w:Nat):Prop where
 o0:S[w]?=some (tJ w x.since)
 o1:S[w+1]?=some (.lst x.aS)
 o2:S[w+2]?=some (.lst (x.asked.map .int))
 o3:S[w+3]?=some (.lst (x.gz.map .int))
structure bt (S:ae)(h:Nat)(a:HA)(L:WL):Prop where
 o0:S[h]?=some (LV h a.num a.pat)
 o1:S[h+1]?=some (.obj 0 [(29,.int a.room),(21,.ref (h+1+1))])
 o2:S[h+1+1]?=some (.aN (a.kept.map kv))
 o3:S[h+3]?=some (.lst (a.near.map .int))
 o4:S[h+4]?=some (.obj 1 [(18,.ref (h+4+1))])
 o5:S[h+4+1]?=some (.aN (a.held.map jv))
 o6:S[h+6]?=some (.aN (a.things.map kv))
 o7:S[h+7]?=some (.aN (L.map eB))
 o8:S[h+8]?=some (iz (a.fM.map ir))
 o9:S[h+9]?=some (.lst a.ends)
 ws:∀p∈L,nL S p.1 p.2
 lo:∀p∈L,h+10<=p.2
 ap:L.Pairwise λp q=>p.2+4<=q.2\/q.2+4<=p.2
def In (h:Nat)(L:WL)(i:Nat):Prop:=(h<=i/\i<h+10)\/∃p∈L,p.2<=i/\i<p.2+4
theorem nL.fr {S S':ae}{W:Nat->Prop}{x:WA}{w:Nat}(h:nL S x w)(hf:Fr W S S')(hw:∀i,w<=i->i<w+4->¬W i):nL S' x w:=
 ⟨hf.at h.o0 (hw _ (by omega) (by omega)),hf.at h.o1 (hw _ (by omega) (by omega)),hf.at h.o2 (hw _ (by omega) (by omega)),hf.at h.o3 (hw _ (by omega) (by omega))⟩
theorem nL.lt {S:ae}{x:WA}{w:Nat}(h:nL S x w):w+4<=S.length:=aZ h.o3
theorem bt.fr {S S':ae}{W:Nat->Prop}{h:Nat}{a:HA}{L:WL}(hh:bt S h a L)(hf:Fr W S S')(hw:∀i,In h L i->¬W i):bt S' h a L:=by
 have hi:∀i,h<=i->i<h+10->¬W i:=λi h1 h2=>hw i (Or.inl ⟨h1,h2⟩);exact⟨hf.at hh.o0 (hi _ (by omega) (by omega)),hf.at hh.o1 (hi _ (by omega) (by omega)),hf.at hh.o2 (hi _ (by omega) (by omega)),hf.at hh.o3 (hi _ (by omega) (by omega)),hf.at hh.o4 (hi _ (by omega) (by omega)),hf.at hh.o5 (hi _ (by omega) (by omega)),hf.at hh.o6 (hi _ (by omega) (by omega)),hf.at hh.o7 (hi _ (by omega) (by omega)),hf.at hh.o8 (hi _ (by omega) (by omega)),hf.at hh.o9 (hi _ (by omega) (by omega)),
  λp hp=>(hh.ws p hp).fr hf λi h1 h2=>hw i (Or.inr ⟨p,hp,h1,h2⟩),hh.lo,hh.ap⟩
theorem bt.app {S T:ae}{h:Nat}{a:HA}{L:WL}(hh:bt S h a L):bt (S++T) h a L:=hh.fr (Fr.app no S T) λ_ _ h=>h
theorem bt.lt {S:ae}{h:Nat}{a:HA}{L:WL}(hh:bt S h a L):h+10<=S.length:=aZ hh.o9
def dD (m:Nat)(y:D):Prop:=(∃i,y = .int i)\/∃k:Nat,y = .tup [.str "own",.int k]/\k<m
theorem jQ {m:Nat}{y:D}(h:dD m y):bK 4 y=true:=by rcases h with⟨i,rfl⟩|⟨k,rfl,_⟩<;>rfl
theorem dD.mono {m m':Nat}{y:D}(h:dD m y)(hm:m<=m'):dD m' y:=by
 rcases h with h | ⟨k,e,hk⟩
 .exact Or.inl h
 .exact Or.inr ⟨k,e,by omega⟩
structure pO (m B:Nat)(x:WA):Prop where
 nm:aM x.nm
 aS:∀y∈x.aS,dD m y
 wl:x.aS.length<=B
 al:x.asked.length<=8*B
 nl:x.gz.length<=B
 wn:x.aS.Nodup
structure aT (a:HA)(L:List WA)(B:Nat):Prop where
 near:gW a.near
 r0:0<=a.room
 r9:a.room<=9
 kept:cY a.kept
 kl:(a.kept.length:Int)<=a.room
 held:jW a.held
 hl:a.held.length<1000
 things:cY a.things
 tl:a.things.length<=B
 wn:(L.map λp=>p.nm).Nodup
 wk:∀p∈L,pO a.ends.length B p
 el:a.ends.length<=B
 pn:∀r∈a.fM,aM r.1
 pl:a.fM.length<=B
 ll:L.length<=B
 bl:B<=100000
theorem jK (S:ae)(o:O)(l:List O):(S++o::l)[S.length]?=some o:=by simp
theorem hU (S:ae)(o o':O)(l:List O):(S++o::l).set S.length o'=S++o'::l:=by simp
theorem qL (S:ae)(j:Nat)(l:List O):(S++l)[S.length+j]?=l[j]?:=by rw[List.getElem?_append_right (Nat.le_add_right _ _),Nat.add_sub_cancel_left]
abbrev Hu (num:Int)(near:List Int)(room pat:Int):HA:=⟨num,near,room,pat,[],[],[],[],[]⟩
theorem AS (n t:Nat)(S:ae)(ht:t=S.length):(ag P (n+1)).m 1 0 [.ref t] (S++[.obj 1 []]) = .ok .aj (S++[.obj 1 [(18,.ref (t+1))],.aN []]):=by subst ht;rw[wm];apply bE;apply aK;unfold nW;rfl';simp[d6]
theorem Aq (n h s:Nat)(num room pat:Int)(near:List Int)(S:ae)(hh:h=S.length)(hs:S[s]?=some (.lst (near.map .int)))(hn:gW near)(n1:0<=num)(n2:num<=7)(n3:num∉near)(r1:0<=room)(r2:room<=9)(w1:1<=pat)(w2:pat<=20):
 Wp ((ag P (n+6)).m 3 0 [.ref h,.int num,.ref s,.int room,.int pat] (S++[.obj 3 []])) λr S'=>r = .aj/\bt S' h (Hu num near room pat) []/\Fr no S S'/\S'.length=h+10:=by
 subst hh;have hsl:=aZ hs;rw[wI];apply aK;unfold nK;rfl';refine ak (gg (n+2) _ _ _ _ n1 n2) ?_;rfl';refine ak (mU n s near _ (aO hs) hn) ?_;rfl';refine LD (aO hs) rfl (λy hy=>by obtain⟨i,_,rfl⟩:=List.mem_map.mp hy;rfl) ?_;rfl';refine jr (λhm=>?_) ?_
 .obtain⟨i,hi,e⟩:=List.mem_map.mp hm;cases e;exact n3 hi
 rfl';apply oQ;rfl';refine ak (Az (n+1) _ room _ rfl r1 r2) ?_;refine⟨rfl,?_⟩;have l1:(S++[O.obj 3 []]).length=S.length+1:=by simp
 rw[l1];simp only[List.append_assoc,List.cons_append,List.nil_append];rfl';refine kW (jK _ _ _) rfl ?_;simp only[hU,d6];rfl';refine ak (gg (n+2) _ _ _ _ w1 w2) ?_;rfl';refine kW (jK _ _ _) rfl ?_;simp only[hU,d6,Nat.reduceEqDiff,if_false];rfl';simp only[List.append_assoc,List.cons_append,List.nil_append,List.length_append,List.length_cons,List.length_nil,Nat.zero_add,Nat.reduceAdd];refine kW (jK _ _ _) rfl ?_;simp only[hU,d6,Nat.reduceEqDiff,if_false];rfl';refine kW (jK _ _ _) rfl ?_;simp only[hU,d6,Nat.reduceEqDiff,if_false];rfl';apply oQ;rfl';refine ak (AS (n+4) _ _ rfl) ?_;refine⟨rfl,?_⟩;simp only[List.append_assoc,List.cons_append,List.nil_append,List.length_append,List.length_cons,List.length_nil,Nat.zero_add,Nat.reduceAdd];rfl';refine kW (jK _ _ _) rfl ?_;simp only[hU,d6,Nat.reduceEqDiff,if_false];rfl';simp only[List.append_assoc,List.cons_append,List.nil_append,List.length_append,List.length_cons,List.length_nil,Nat.zero_add,Nat.reduceAdd];refine kW (jK _ _ _) rfl ?_;simp only[hU,d6,Nat.reduceEqDiff,if_false];rfl';simp only[List.append_assoc,List.cons_append,List.nil_append,List.length_append,List.length_cons,List.length_nil,Nat.zero_add,Nat.reduceAdd];refine kW (jK _ _ _) rfl ?_;simp only[hU,d6,Nat.reduceEqDiff,if_false];rfl';simp only[List.append_assoc,List.cons_append,List.nil_append,List.length_append,List.length_cons,List.length_nil,Nat.zero_add,Nat.reduceAdd];refine kW (jK _ _ _) rfl ?_;simp only[hU,d6,Nat.reduceEqDiff,if_false];rfl';simp only[List.append_assoc,List.cons_append,List.nil_append,List.length_append,List.length_cons,List.length_nil,Nat.zero_add,Nat.reduceAdd];refine kW (jK _ _ _) rfl ?_;simp only[hU,d6,Nat.reduceEqDiff,if_false];rfl';refine⟨trivial,⟨by simp,by simp,qL _ 2 _,by simp,by simp,qL _ 5 _,by simp,by simp,by simp;rfl,by simp,by simp,by simp,by simp⟩,Fr.app _ _ _,by simp⟩
theorem bt.kept {S:ae}{h:Nat}{a:HA}{L:WL}(hh:bt S h a L)(k:List Row):bt (S.set (h+1+1) (.aN (k.map kv))) h { a with kept:=k } L:=by have hl:=hh.lt;obtain⟨o0,o1,o2,o3,o4,o5,o6,o7,o8,o9,ws,lo,ap⟩:=hh;exact⟨by ac_rfl,by ac_rfl,by ac_rfl,by ac_rfl,by ac_rfl,by ac_rfl,by ac_rfl,by ac_rfl,by ac_rfl,by ac_rfl,λp hp=>(ws p hp).fr (Fr.set (· = h+1+1) _ _ _ rfl) λi h1 h2=>by have:=lo p hp;omega,lo,ap⟩
theorem bt.held {S:ae}{h:Nat}{a:HA}{L:WL}(hh:bt S h a L)(k:List (D×List Int)):bt (S.set (h+4+1) (.aN (k.map jv))) h { a with held:=k } L:=by have hl:=hh.lt;obtain⟨o0,o1,o2,o3,o4,o5,o6,o7,o8,o9,ws,lo,ap⟩:=hh;exact⟨by ac_rfl,by ac_rfl,by ac_rfl,by ac_rfl,by ac_rfl,by ac_rfl,by ac_rfl,by ac_rfl,by ac_rfl,by ac_rfl,λp hp=>(ws p hp).fr (Fr.set (· = h+4+1) _ _ _ rfl) λi h1 h2=>by have:=lo p hp;omega,lo,ap⟩
theorem bt.fM {S:ae}{h:Nat}{a:HA}{L:WL}(hh:bt S h a L)(k:List (D×Int×Int×Int)):bt (S.set (h+8) (iz (k.map ir))) h { a with fM:=k } L:=by have hl:=hh.lt;obtain⟨o0,o1,o2,o3,o4,o5,o6,o7,o8,o9,ws,lo,ap⟩:=hh;exact⟨by ac_rfl,by ac_rfl,by ac_rfl,by ac_rfl,by ac_rfl,by ac_rfl,by ac_rfl,by ac_rfl,by ac_rfl,by ac_rfl,λp hp=>(ws p hp).fr (Fr.set (· = h+8) _ _ _ rfl) λi h1 h2=>by have:=lo p hp;omega,lo,ap⟩
theorem bt.ends {S:ae}{h:Nat}{a:HA}{L:WL}(hh:bt S h a L)(k:List D):bt (S.set (h+9) (.lst k)) h { a with ends:=k } L:=by have hl:=hh.lt;obtain⟨o0,o1,o2,o3,o4,o5,o6,o7,o8,o9,ws,lo,ap⟩:=hh;exact⟨by ac_rfl,by ac_rfl,by ac_rfl,by ac_rfl,by ac_rfl,by ac_rfl,by ac_rfl,by ac_rfl,by ac_rfl,by ac_rfl,λp hp=>(ws p hp).fr (Fr.set (· = h+9) _ _ _ rfl) λi h1 h2=>by have:=lo p hp;omega,lo,ap⟩
theorem bt.GS {S:ae}{h:Nat}{a:HA}{L L':WL}(hh:bt S h a L)(hs:L'.Sublist L):bt (S.set (h+7) (.aN (L'.map eB))) h a L':=by have hl:=hh.lt;obtain⟨o0,o1,o2,o3,o4,o5,o6,o7,o8,o9,ws,lo,ap⟩:=hh;exact⟨by ac_rfl,by ac_rfl,by ac_rfl,by ac_rfl,by ac_rfl,by ac_rfl,by ac_rfl,by ac_rfl,by ac_rfl,by ac_rfl,λp hp=>(ws p (hs.subset hp)).fr (Fr.set (· = h+7) _ _ _ rfl) λi h1 h2=>by have:=lo p (hs.subset hp);omega,λp hp=>lo p (hs.subset hp),ap.sublist hs⟩
theorem vP {h:Nat}{L:WL}{i:Nat}(h1:h<=i)(h2:i<h+10):In h L i:=Or.inl ⟨h1,h2⟩
theorem Fo {n h s:Nat}{a:HA}{L:WL}{B:Nat}{b:D}{kP:List Int}{S:ae}(hh:bt S h a L)(ho:aT a (L.map (·.1)) B)(hb:oG b)(h3:S[s]?=some (.lst (kP.map .int)))(hs:gW kP):
 (ag P (n+7)).m 3 34 [.ref h,b,.ref s] S = .ok .aj (S.set (h+4+1) (.aN ((mz a.held b kP).map jv))):=by
 obtain⟨o0,o1,o2,o3,o4,o5,o6,o7,o8,o9,ws,lo,ap⟩:=hh;rw[vg];apply bE;apply aK;unfold mS;rfl';refine ak (JF (n:=n) ⟨o4,o5⟩ ho.held hb ho.hl h3 hs) ?_;exact⟨rfl,rfl⟩
def cB (a:HA)(x:D):List Int:=(c8 a.held x).filter λi=>decide (i∈a.near)
theorem fD {l:List Int}{i:Int}:(D.int i∈l.map D.int)↔i∈l:=by simp
theorem Dq {n h:Nat}{a:HA}{L:WL}{x:D}{S:ae}(hh:bt S h a L)(ho:jW a.held)(hx:aM x):
 (ag P (n+6)).m 3 39 [.ref h,x] S = .ok (.ref (S.length+1)) (S++[.lst ((c8 a.held x).map .int),.lst ((cB a x).map .int)]):=by
 have hl:=hh.lt;obtain⟨o0,o1,o2,o3,o4,o5,o6,o7,o8,o9,ws,lo,ap⟩:=hh;have hsl:(c8 a.held x).length<=8:=by
  unfold c8;cases hw:dX a.held (partsOf x) (partsOf x).length with
  | none=>simp
  | some p=>
   have:∀m,dX a.held (partsOf x) m=some p->p.2.length<=8:=by
    have sN:∀y s,eG a.held y=some s->s.length<=8:=by
     intro y s e;unfold eG at e;cases hf:a.held.find? λp=>decide (p.1=y) with
     | none=>simp[hf] at e
     | some q=>rw[hf] at e;have:=(ho q (List.mem_of_find?_eq_some hf)).2.2.1;simp at e;rw[<-e];exact this
    intro m
    induction m with
    | zero=>
     intro e;simp only[dX] at e;cases hk:eG a.held (.tup ((partsOf x).take 0)) with
     | none=>rw[hk] at e;cases e
     | some s=>rw[hk] at e;simp only[Option.map_some,Option.some.injEq] at e;rw[<-e];exact sN _ _ hk
    | succ m ih=>
     intro e;simp only[dX] at e;cases hk:eG a.held (.tup ((partsOf x).take (m+1))) with
     | none=>rw[hk] at e;exact ih e
     | some s=>rw[hk] at e;simp at e;rw[<-e];exact sN _ _ hk
   exact this _ hw
 rw[sY];apply bE;apply aK;unfold lP;apply aF;apply jd;apply fk;rfl';refine ak (FP (n:=n) ⟨o4,o5⟩ ho hx) ?_;refine cl (aG _ _) (by simp[sizeLine];omega) (λy=>decide (y∈a.near.map D.int)) id (λy hy=>⟨?_,λ_=>rfl⟩) ?_
 .obtain⟨i,_,rfl⟩:=List.mem_map.mp hy;apply bE;rfl';refine LD (aO o3) rfl (λy hy=>by obtain⟨i,_,rfl⟩:=List.mem_map.mp hy;rfl) ?_;rfl';exact⟨rfl,rfl⟩
 .have:(((c8 a.held x).map D.int).filter λy=>decide (y∈a.near.map D.int)).map id=(cB a x).map D.int:=by
   rw[List.map_id,List.filter_map];unfold cB
   congr 1
   apply List.filter_congr;intro i _;simp
  rw[this];simp
def sy (a:HA)(x:D)(now:Int):Option (D×Int×Int×Int):=a.fM.find? λr=>decide ((ir r).1 = .tup [x,.int now])
def iW (a:HA)(x:D)(now:Int):Option (Int×Int):=match a.things.find? λr=>decide (r.1=x) with
 | some r=>some (r.2.1,now+r.2.2)
 | none=>match gy a.kept x now with
  | some r=>some r.2
  | none=>(sy a x now).map λr=>r.2.2
def cI (a:HA)(x:D)(now:Int):List Row:=match a.things.find? λr=>decide (r.1=x) with
 | some _=>a.kept
 | none=>fH a.kept x now
def pairD (p:Int×Int):D:=.tup [.int p.1,.int p.2]
theorem EY {n h:Nat}{a:HA}{L:WL}{B:Nat}{x:D}{now:Int}{S:ae}(hh:bt S h a L)(ho:aT a (L.map (·.1)) B)(hx:aM x)(hw:0<=now):
 (ag P (n+5)).m 3 14 [.ref h,x,.int now] S = .ok (((iW a x now).map pairD).getD .aj) (S.set (h+1+1) (.aN ((cI a x now).map kv))):=by
 have hl:=hh.lt;obtain⟨o0,o1,o2,o3,o4,o5,o6,o7,o8,o9,ws,lo,ap⟩:=hh;rw[vf];apply bE;apply aK;unfold mT;rfl';refine E6 o6 (fE ho.things.2 hx) ?_;rfl';rw[gN];unfold iW cI;cases hf:a.things.find? λr=>decide (r.1=x) with
 | some r=>refine qJ ?_;rfl';refine sE o6 (fE ho.things.2 hx) (by rw[gN,hf];rfl) ?_;refine⟨_,_,rfl,rfl,?_⟩;rfl';exact⟨rfl,set_same o2⟩
 | none=>
  refine nJ ?_;rfl';refine wp_mono (KQ (n:=n) ⟨o1,o2⟩ ho.kept (by have:=ho.kl;have:=ho.r9;omega) hx hw) λv S' ⟨ev,eS⟩=>?_;subst ev eS;have q0:(S.set (h+1+1) (.aN ((fH a.kept x now).map kv)))[h]?=some (LV h a.num a.pat):=by ac_rfl
  have q8:(S.set (h+1+1) (.aN ((fH a.kept x now).map kv)))[h+8]?=some (iz (a.fM.map ir)):=by ac_rfl
  cases hg:gy a.kept x now with
  | some r=>dsimp only;rfl';refine jr (λe=>by cases e) ?_;rfl';exact⟨rfl,rfl⟩
  | none=>
   dsimp only;rfl';refine d9 rfl ?_;rfl';refine⟨_,rfl,by ac_rfl,?_,?_⟩
   .obtain⟨ps,rfl,_,_,hp⟩:=hx;show aY (.tup ps)=true;exact cZ ⟨ps,rfl,by assumption,by assumption,hp⟩
   .show _/\_;refine⟨?_,rfl⟩;rw[pb];unfold sy;cases a.fM.find? λr=>decide ((ir r).1 = .tup [x,.int now])<;>rfl
def fe:D->Bool
 | .int _=>true
 | _=>false
def lettersOf (ys:List D)(b9:D):List D:=(ys.filter fe).map λy=>.tup [y,b9]
def jO (e:D)(l:List D)(y:D):List D:=match y with
 | .tup [_,.int k]=>l.set k.toNat e
 | _=>l
def bx (l:List D)(ys:List D)(e:D):List D:=ys.foldl (jO e) l
theorem fi (ys:List D)(e:D):∀l:List D,(bx l ys e).length=l.length:=by
 induction ys with
 | nil=>intro l;rfl
 | cons y ys ih=>intro l;show (bx (jO e l y) ys e).length=_;rw[ih];unfold jO;split<;>simp
def DK (b9 e:D):Prop:=(∃x v u,b9 = .tup [.str "thing",x,.int v,.int u]/\e = .tup [.int v])\/∃x,b9 = .tup [.str "no",x]/\e = .tup [.aj]
theorem wq {ρ:RF.Env}{S:ae}{K:En}{is:List Nat}{one:Bool}{b:CS}{n:Nat}{xs:List D}(h:S[n]?=some (.lst xs))(w:Wf (ee (eZ (.ref n) xs) is one b xs ρ S) K):Wf (nC is one b (.ref n) ρ S) K:=by unfold nC;simp only[h];exact w
theorem take_succ {α:Type}{l:List α}{i:Nat}{x:α}(h:l[i]?=some x):l.take (i+1)=l.take i++[x]:=by rw[List.take_succ,h];rfl
theorem Js {n h r:Nat}{a:HA}{L:WL}{B:Nat}{ys:List D}{b9 e:D}{S:ae}(hh:bt S h a L)(hr:S[r]?=some (.lst ys))(eJ:r≠h+9)(hy:∀y∈ys,dD a.ends.length y)(hb:ys.length<=B)(hB:B<=1000000)(hle:DK b9 e):
 (ag P (n+1)).m 3 36 [.ref h,.ref r,b9] S = .ok (.ref S.length) ((S++[O.lst (lettersOf ys b9)]).set (h+9) (.lst (bx a.ends ys e))):=by
 have hl:=hh.lt;have hrl:=aZ hr;obtain⟨o0,o1,o2,o3,o4,o5,o6,o7,o8,o9,ws,lo,ap⟩:=hh;rw[vS];apply bE;apply aK;unfold nk;apply aF;apply eD;refine ak (a:=e) (S:=S) ?_ ?_
 .rcases hle with⟨x,v,u,rfl,rfl⟩|⟨x,rfl,rfl⟩
  .kernel_rfl
  .kernel_rfl
 rfl';refine wq (aO hr) ?_;refine lI (Inv:=λi ρ S'=>(∃r5,ρ=[some (.ref h),some (.ref r),some b9,some e,some (.ref S.length),r5])/\S'=(S++[O.lst (lettersOf (ys.take i) b9)]).set (h+9) (.lst (bx a.ends (ys.take i) e))) ⟨⟨_,rfl⟩,?_⟩ (λi ρ S' _ hI=>?_) (λi y ρ S' hi hI=>?_) (λρ S' hI=>?_)
 .exact set_same (aO o9)
 .obtain⟨_,rfl⟩:=hI;exact decide_eq_true (bz (by ac_rfl))
 .obtain⟨⟨r5,rfl⟩,rfl⟩:=hI;have hiy:i<ys.length:=(List.getElem?_eq_some_iff.mp hi).1;refine⟨_,rfl,?_⟩;show Wf (ah _ [some (.ref h),some (.ref r),some b9,some e,some (.ref S.length),some y] _) _;rcases hy y (List.mem_of_getElem? hi) with⟨j,rfl⟩|⟨k,rfl,hk⟩
  .rfl';refine⟨lettersOf (ys.take i) b9,by ac_rfl,?_,?_⟩
   .unfold lettersOf;rw[List.length_map];have h1:=List.length_filter_le fe (ys.take i);have h2:=List.length_take_le i ys;unfold sizeLine;omega
   rfl';refine⟨⟨_,rfl⟩,?_⟩;rw[take_succ hi];have e1:lettersOf (ys.take i++[D.int j]) b9=lettersOf (ys.take i) b9++[.tup [.int j,b9]]:=by unfold lettersOf;simp[List.filter_append,fe]
   have e2:bx a.ends (ys.take i++[D.int j]) e=bx a.ends (ys.take i) e:=by unfold bx;rw[List.foldl_append];rfl
   rw[e1,e2,List.set_comm _ _ (by omega)]
   congr 1
   simp
  .rfl';refine NQ (j:=k) (xs:=bx a.ends (ys.take i) e) (by ac_rfl) ?_ ?_
   .rw[fi];unfold sj;rw[if_pos (by omega),if_pos (by omega)];simp
   rfl';refine⟨⟨_,rfl⟩,?_⟩;rw[take_succ hi];have e1:lettersOf (ys.take i++[D.tup [.str "own",.int k]]) b9=lettersOf (ys.take i) b9:=by unfold lettersOf;simp[List.filter_append,fe]
   have e2:bx a.ends (ys.take i++[D.tup [.str "own",.int k]]) e=(bx a.ends (ys.take i) e).set k e:=by unfold bx;rw[List.foldl_append];rfl
   rw[e1,e2,List.set_set]
 .obtain⟨⟨r5,rfl⟩,rfl⟩:=hI;rfl';rw[List.take_length];exact⟨rfl,rfl⟩
def Out (S:ae)(h:Nat)(L:WL)(a':HA)(L':WL)(ls:List D)(v:D)(S':ae):Prop:=
 ∃r,v = .ref r/\S.length<=r/\S'[r]?=some (.lst ls)/\bt S' h a' L'/\Fr (In h L) S S'/\(∀p∈L',(∃q∈L,q.2=p.2)\/S.length<=p.2)/\¬In h L' r
theorem xP {h:Nat}{L L1:WL}{S:ae}(hl:∀p∈L1,(∃q∈L,q.2=p.2)\/S.length<=p.2):∀i,i<S.length->In h L1 i->In h L i:=by
 intro i hi du;rcases du with du | ⟨p,hp,h1,h2⟩
 .exact Or.inl du
 .rcases hl p hp with⟨q,hq,e⟩ | m7
  .exact Or.inr ⟨q,hq,by omega,by omega⟩
  .omega
theorem Out.pre {S S1:ae}{h:Nat}{L L1:WL}{a':HA}{L':WL}{ls:List D}{v:D}{S':ae}(hf:Fr (In h L) S S1)(hl:∀p∈L1,(∃q∈L,q.2=p.2)\/S.length<=p.2)(o:Out S1 h L1 a' L' ls v S'):Out S h L a' L' ls v S':=by
 obtain⟨r,e,h1,h2,h3,h4,h5,h6⟩:=o;refine⟨r,e,Nat.le_trans hf.1 h1,h2,h3,hf.trans h4 (xP hl),λp hp=>?_,h6⟩;rcases h5 p hp with⟨q,hq,e⟩ | m7
 .rcases hl q hq with⟨q',gI,e'⟩ | m7
  .exact Or.inl ⟨q',gI,by omega⟩
  .exact Or.inr (by omega)
 .exact Or.inr (Nat.le_trans hf.1 m7)
theorem bt.fresh {S:ae}{h:Nat}{a:HA}{L:WL}(hh:bt S h a L){r:Nat}(hr:S.length<=r):¬In h L r:=by
 have:=hh.lt;rintro (⟨h1,h2⟩|⟨p,hp,h1,h2⟩)
 .omega
 .have:=(hh.ws p hp).lt;omega
theorem lY {n h r:Nat}{a:HA}{L:WL}{B:Nat}{ys:List D}{b9 e:D}{S:ae}(hh:bt S h a L)(hr:S[r]?=some (.lst ys))(eJ:r≠h+9)(hy:∀y∈ys,dD a.ends.length y)(hb:ys.length<=B)(hB:B<=1000000)(hle:DK b9 e):
 Wp ((ag P (n+1)).m 3 36 [.ref h,.ref r,b9] S) (Out S h L { a with ends:=bx a.ends ys e } L (lettersOf ys b9)):=by
 have hl:=hh.lt;refine ak (Js hh hr eJ hy hb hB hle) ?_;refine⟨_,rfl,Nat.le_refl _,ky (aG _ _) (by omega),hh.app.ends _,cR (aU (Fr.refl _ _)) λ_=>vP (by omega) (by omega),λp hp=>Or.inl ⟨p,hp,rfl⟩,hh.fresh (Nat.le_refl _)⟩
def eF (L:WL)(x:D):WL:=L.filter λp=>decide (p.1.nm≠x)
def eC (L:WL)(x:D):Option (WA×Nat):=L.find? λp=>decide (p.1.nm=x)
theorem mq (L:WL)(x:D):cU (L.map eB) x=(eC L x).map λp=>.ref p.2:=pb eB L x
theorem Cz (L:WL)(x:D):iU (L.map eB) x=(eF L x).map eB:=by unfold iU eF;rw[List.filter_map];rfl
theorem jg {L:WL}(hn:((L.map (·.1)).map (·.nm)).Nodup){p:WA×Nat}(hp:p∈L):eC L p.1.nm=some p:=by
 unfold eC
 induction L with
 | nil=>simp at hp
 | cons s L ih=>
  simp only[List.map_cons,List.nodup_cons] at hn;rcases List.mem_cons.mp hp with rfl | hp
  .simp
  .have:s.1.nm≠p.1.nm:=λe=>hn.1 (e ▸ List.mem_map.mpr ⟨p.1,List.mem_map.mpr ⟨p,hp,rfl⟩,rfl⟩);rw[List.find?_cons,decide_eq_false this];exact ih hn.2 hp
theorem ik {L:WL}{x:D}{p:WA×Nat}(h:eC L x=some p):p∈L/\p.1.nm=x:=⟨List.mem_of_find?_eq_some h,by simpa using List.find?_some h⟩
theorem yu {L:WL}{x:D}(h:eC L x=none):∀p∈L,p.1.nm≠x:=λp hp=>by simpa using List.find?_eq_none.mp h p hp
theorem j8 {L:WL}{a:HA}{B:Nat}{x:D}(ho:aT a (L.map (·.1)) B)(hx:aM x):cj (L.map eB) x=true:=jZ (λp hp=>by obtain⟨q,hq,rfl⟩:=List.mem_map.mp hp;exact cZ (ho.wk q.1 (List.mem_map.mpr ⟨q,hq,rfl⟩)).nm) (cZ hx)
theorem Ex {n h:Nat}{a:HA}{L:WL}{B:Nat}{p:WA×Nat}{S:ae}(hh:bt S h a L)(ho:aT a (L.map (·.1)) B)(hp:p∈L):
 Wp ((ag P (n+2)).m 3 11 [.ref h,p.1.nm] S) (Out S h L { a with ends:=bx a.ends p.1.aS (.tup [.aj]) } (eF L p.1.nm) (lettersOf p.1.aS (.tup [.str "no",p.1.nm]))):=by
 have hl:=hh.lt;have hw:=hh.ws p hp;have jn:=hh.lo p hp;have yc:(eF L p.1.nm).Sublist L:=List.filter_sublist;have hk:=ho.wk p.1 (List.mem_map.mpr ⟨p,hp,rfl⟩);have h1:bt (S.set (h+7) (.aN ((eF L p.1.nm).map eB))) h a (eF L p.1.nm):=hh.GS yc;have hw1:=hw.fr (Fr.set (· = h+7) S _ (.aN ((eF L p.1.nm).map eB)) rfl) λi h1 h2=>by omega
 have q0:=hh.o0;have q7:=hh.o7;rw[vp];apply aK;unfold mJ;rfl';refine⟨q7,cZ hk.nm,j8 ho hk.nm,.ref p.2,by rw[mq,jg ho.wn hp];rfl,?_⟩;rw[Cz];have q0':=h1.o0;have w0':=hw1.o0;rfl';refine wp_mono (lY (n:=n) (B:=B) h1 hw1.o1 (by omega) hk.aS hk.wl (by have:=ho.bl;omega) (Or.inr ⟨_,rfl,rfl⟩)) λv S' o=>?_;exact o.pre (cR (Fr.refl _ _) λ_=>vP (by omega) (by omega)) λq hq=>Or.inl ⟨q,yc.subset hq,rfl⟩
def Apart (p q:WA×Nat):Prop:=p.2+4<=q.2\/q.2+4<=p.2
theorem xh:∀{L:WL},(L.Pairwise λp q=>p.2+4<=q.2\/q.2+4<=p.2)->∀p∈L,∀q∈L,p=q\/Apart p q
 | [],_,p,hp,_,_=>by simp at hp
 | s::L,h,p,hp,q,hq=>by
  rw[List.pairwise_cons] at h;rcases List.mem_cons.mp hp with rfl | hp
  .rcases List.mem_cons.mp hq with rfl | hq
   .exact Or.inl rfl
   .exact Or.inr (h.1 q hq)
  .rcases List.mem_cons.mp hq with e | hq
   .rw[e];exact Or.inr (h.1 p hp).symm
   .exact xh h.2 p hp q hq
def bN (L:WL)(x:D)(y:WA):WL:=L.map λq=>if q.1.nm=x then (y,q.2) else q
theorem wz {L:WL}{x:D}{y:WA}(hy:y.nm=x):(bN L x y).map eB=L.map eB:=by
 unfold bN;rw[List.map_map];apply List.map_congr_left;intro q _;show eB (if q.1.nm=x then (y,q.2) else q)=eB q;split
 .rename_i h;simp[eB,hy,h]
 .rfl
theorem lC {L:WL}{x:D}{y:WA}{p:WA×Nat}(hp:p∈bN L x y):∃q∈L,q.2=p.2/\(p=q/\q.1.nm≠x\/p.1=y/\q.1.nm=x):=by
 obtain⟨q,hq,e⟩:=List.mem_map.mp hp;refine⟨q,hq,?_⟩;split at e
 .rename_i h;rw[<-e];exact⟨rfl,Or.inr ⟨rfl,h⟩⟩
 .rename_i h;rw[<-e];exact⟨rfl,Or.inl ⟨rfl,h⟩⟩
theorem bt.Kl {S S':ae}{h:Nat}{a:HA}{L:WL}{p:WA×Nat}{y:WA}(hh:bt S h a L)(hn:((L.map (·.1)).map (·.nm)).Nodup)(hp:p∈L)(hf:Fr (λi=>p.2<=i/\i<p.2+4) S S')(hw:nL S' y p.2)(hy:y.nm=p.1.nm):bt S' h a (bN L p.1.nm y):=by
 have hl:=hh.lt;have jn:=hh.lo p hp;have ha:=xh hh.ap;obtain⟨o0,o1,o2,o3,o4,o5,o6,o7,o8,o9,ws,lo,ap⟩:=hh;refine⟨hf.at o0 (by omega),hf.at o1 (by omega),hf.at o2 (by omega),hf.at o3 (by omega),hf.at o4 (by omega),hf.at o5 (by omega),hf.at o6 (by omega),by rw[wz hy];exact hf.at o7 (by omega),hf.at o8 (by omega),hf.at o9 (by omega),λq hq=>?_,λq hq=>?_,?_⟩
 .obtain⟨q',gI,e,h1 | h1⟩:=lC hq
  .rcases ha p hp q' gI with e2 | e2
   .exact absurd (by rw[<-e2]) h1.2
   .rw[h1.1];refine(ws q' gI).fr hf λi i1 i2=>?_;unfold Apart at e2;omega
  .have:q'=p:=by have f1:=jg hn gI;rw[h1.2,jg hn hp] at f1;exact(Option.some.inj f1).symm
   rw[h1.1,<-e,this];exact hw
 .obtain⟨q',gI,e,_⟩:=lC hq;rw[<-e];exact lo q' gI
 .unfold bN;rw[List.pairwise_map];refine ap.imp λ{u v} h=>?_;have e1:(if u.1.nm=p.1.nm then (y,u.2) else u).2=u.2:=by split<;>rfl
  have e2:(if v.1.nm=p.1.nm then (y,v.2) else v).2=v.2:=by split<;>rfl
  rw[e1,e2];exact h
theorem lE {L:WL}{x:D}{y:WA}:(bN L x y).map (·.1)=(L.map (·.1)).map λz=>if z.nm=x then y else z:=by unfold bN;rw[List.map_map,List.map_map];apply List.map_congr_left;intro q _;show (if q.1.nm=x then (y,q.2) else q).1=if q.1.nm=x then y else q.1;split<;>rfl
theorem og {L:WL}{x:D}{y:WA}(hy:y.nm=x):((bN L x y).map (·.1)).map (·.nm)=(L.map (·.1)).map (·.nm):=by
 rw[lE,List.map_map];apply List.map_congr_left;intro z _;show (if z.nm=x then y else z).nm=z.nm;split
 .rename_i h;rw[hy,h]
 .rfl
theorem yQ {L:WL}(hn:((L.map (·.1)).map (·.nm)).Nodup){p:WA×Nat}{y:WA}(hp:p∈L):(y,p.2)∈bN L p.1.nm y:=List.mem_map.mpr ⟨p,hp,by rw[if_pos rfl]⟩
abbrev lB (x:WA)(s:Int):WA:={ x with asked:=x.asked.erase s,gz:=x.gz++[s] }
theorem Ft {L:WL}{x:D}{y:WA}(hy:y.nm=x):eF (bN L x y) x=eF L x:=by
 unfold eF bN
 induction L with
 | nil=>rfl
 | cons q L ih=>
  rw[List.map_cons,List.filter_cons,List.filter_cons,ih]
  by_cases h:q.1.nm=x
  .rw[if_pos h,if_neg (by simp[hy]),if_neg (by simp[h])]
  .rw[if_neg h]
theorem Ic {a:HA}{L:WL}{B:Nat}{x:D}{y:WA}(ho:aT a (L.map (·.1)) B)(hy:y.nm=x)(hk:pO a.ends.length B y):aT a ((bN L x y).map (·.1)) B:=by
 obtain⟨h1,h2,h3,h4,h5,h6,h7,h8,h9,wn,wk,el,pn,pl,ll,bl⟩:=ho;refine⟨h1,h2,h3,h4,h5,h6,h7,h8,h9,?_,λp hp=>?_,el,pn,pl,by rw[lE];simpa using ll,bl⟩
 .have:=og (L:=L) hy;rw[this];exact wn
 .rw[lE] at hp;obtain⟨z,hz,e⟩:=List.mem_map.mp hp;split at e
  .rw[<-e];exact hk
  .rw[<-e];exact wk z hz
theorem aT.mono {a:HA}{L:List WA}{B B':Nat}(ho:aT a L B)(hb:B<=B')(hB:B'<=100000):aT a L B':=by obtain⟨h1,h2,h3,h4,h5,h6,h7,h8,h9,wn,wk,el,pn,pl,ll,bl⟩:=ho;refine⟨h1,h2,h3,h4,h5,h6,h7,h8,by omega,wn,λp hp=>?_,by omega,pn,by omega,by omega,hB⟩;obtain⟨k1,k2,k3,k4,k5,k6⟩:=wk p hp;exact⟨k1,k2,by omega,by omega,by omega,k6⟩
theorem Ay {n h:Nat}{a:HA}{L:WL}{B:Nat}{p:WA×Nat}{s:Int}{S:ae}(hh:bt S h a L)(ho:aT a (L.map (·.1)) B)(hp:p∈L)(hs:s∈p.1.asked)(hB:B+1<=100000):
 Wp ((ag P (n+3)).m 3 37 [.ref h,.int s,p.1.nm] S) λv S'=>if (p.1.asked.erase s)=[] then Out S h L { a with ends:=bx a.ends p.1.aS (.tup [.aj]) } (eF L p.1.nm) (lettersOf p.1.aS (.tup [.str "no",p.1.nm])) v S' else Out S h L a (bN L p.1.nm (lB p.1 s)) [] v S':=by
 have hl:=hh.lt;have hw:=hh.ws p hp;have jn:=hh.lo p hp;have mX:=hw.lt;have hk:=ho.wk p.1 (List.mem_map.mpr ⟨p,hp,rfl⟩);have q0:=hh.o0;have q7:=hh.o7;obtain⟨w0,w1,w2,w3⟩:=hw;rw[rC];apply aK;unfold kH;rfl';refine sE q7 (j8 ho hk.nm) (by rw[mq,jg ho.wn hp];rfl) ?_;rfl';refine⟨s,rfl,w2,hs,?_⟩;rfl';refine⟨p.1.gz.map .int,by ac_rfl,?_,?_⟩
 .have:=hk.nl;have:=ho.bl;simp[sizeLine];omega
 have hf:Fr (λi=>p.2<=i/\i<p.2+4) S ((S.set (p.2+2) (.lst ((p.1.asked.erase s).map .int))).set (p.2+3) (.lst (p.1.gz.map .int++[.int s]))):=cR (cR (Fr.refl _ _) λ_=>⟨by omega,by omega⟩) λ_=>⟨by omega,by omega⟩;have hW:nL ((S.set (p.2+2) (.lst ((p.1.asked.erase s).map .int))).set (p.2+3) (.lst (p.1.gz.map .int++[.int s]))) (lB p.1 s) p.2:=⟨by ac_rfl,by ac_rfl,by show _=some (O.lst ((p.1.asked.erase s).map .int));ac_rfl,by show _=some (O.lst ((p.1.gz++[s]).map .int));rw[List.map_append];exact dA (by ac_rfl)⟩;generalize hS1:(S.set (p.2+2) (.lst ((p.1.asked.erase s).map .int))).set (p.2+3) (.lst (p.1.gz.map .int++[.int s]))=S1 at hf hW;have h1:bt S1 h a (bN L p.1.nm (lB p.1 s)):=hh.Kl ho.wn hp hf hW rfl;have hF:Fr (In h L) S S1:=hf.mono λi _ hi=>Or.inr ⟨p,hp,hi.1,hi.2⟩;have hL:∀q∈bN L p.1.nm (lB p.1 s),(∃q'∈L,q'.2=q.2)\/S.length<=q.2:=λq hq=>by obtain⟨q',gI,e,_⟩:=lC hq;exact Or.inl ⟨q',gI,e⟩
 have r0:=h1.o0;have v0:=hW.o0;have v2:=hW.o2;rfl';refine f7 (λhc=>?_) (λhc=>?_)
 .have hc:p.1.asked.erase s=[]:=by simpa[lB] using hc
  rfl';have hk1:pO a.ends.length (B+1) (lB p.1 s):=by obtain⟨k1,k2,k3,k4,k5,k6⟩:=hk;refine⟨k1,k2,by show p.1.aS.length<=B+1;omega,by show (p.1.asked.erase s).length<=_;rw[hc];simp,by simp;omega,k6⟩
  have gv:aT a ((bN L p.1.nm (lB p.1 s)).map (·.1)) (B+1):=Ic (ho.mono (Nat.le_succ B) hB) rfl hk1;refine wp_mono (Ex (n:=n) (p:=(lB p.1 s,p.2)) h1 gv (yQ ho.wn hp)) λv S' o=>?_;have o:=o.pre hF hL;have e:=Ft (L:=L) (x:=p.1.nm) (y:=lB p.1 s) rfl;dsimp only at o e;rw[e] at o;exact Eq.mpr (if_pos hc) o
 .have hc:¬p.1.asked.erase s=[]:=by simpa[lB] using hc
  rfl';exact Eq.mpr (if_neg hc) ⟨_,rfl,hF.1,aG _ _,h1.app,aU hF,hL,h1.fresh (Nat.le_refl _)⟩
def kU (l:List (D×Int×Int×Int))(x:D)(now v u:Int):List (D×Int×Int×Int):=if l.any (λr=>decide ((ir r).1 = .tup [x,.int now]))=true then l.map λr=>if (ir r).1 = .tup [x,.int now] then (r.1,r.2.1,v,u) else r else l++[(x,now,v,u)]
theorem Oy (l:List (D×Int×Int×Int))(x:D)(now v u:Int):putD (l.map ir) (.tup [x,.int now]) (.tup [.int v,.int u])=(kU l x now v u).map ir:=by
 unfold putD kU;rw[List.any_map];have:((λkv:D×D=>decide (kv.1 = .tup [x,.int now])) ∘ ir)=λr:D×Int×Int×Int=>decide ((ir r).1 = .tup [x,.int now]):=rfl;rw[this];split
 .rw[List.map_map,List.map_map];apply List.map_congr_left;intro r _;show (if (ir r).1 = .tup [x,.int now] then ((ir r).1,D.tup [.int v,.int u]) else ir r)=ir (if (ir r).1 = .tup [x,.int now] then (r.1,r.2.1,v,u) else r);split<;>rfl
 .rw[List.map_append];rfl
abbrev de (x:D)(v u:Int):D:=.tup [.str "thing",x,.int v,.int u]
abbrev gY (x:D):D:=.tup [.str "no",x]
abbrev Eo (x:D):D:=.tup [.str "ask",x]
theorem C7 {x:D}{now:Int}(hx:aM x):eA (.tup [x,.int now])=true:=cZ hx
def sv (a:HA)(x:D)(s v u now:Int)(aS:List D):HA:={ a with kept:=iI a.room a.kept x v u now,fM:=kU a.fM x now v u,ends:=bx a.ends (aS.filter λy=>decide (y ≠ .int s)) (.tup [.int v]) }
theorem vj {n h:Nat}{a:HA}{L:WL}{B:Nat}{p:WA×Nat}{s v u now:Int}{S:ae}(hh:bt S h a L)(ho:aT a (L.map (·.1)) B)(hp:p∈L)(v1:0<=v)(v2:v<=999)(u1:0<=u)(w1:0<=now):
 Wp ((ag P (n+6)).m 3 38 [.ref h,.int s,de p.1.nm v u,.int now] S) (Out S h L (sv a p.1.nm s v u now p.1.aS) (eF L p.1.nm) (lettersOf (p.1.aS.filter λy=>decide (y ≠ .int s)) (de p.1.nm v u))):=by
 have hl:=hh.lt;have hw:=hh.ws p hp;have jn:=hh.lo p hp;have mX:=hw.lt;have hk:=ho.wk p.1 (List.mem_map.mpr ⟨p,hp,rfl⟩);have hb:=ho.bl;have o0:=hh.o0;have o1:=hh.o1;have o2:=hh.o2;rw[ni];apply aK;unfold ja;rfl';refine⟨1,rfl,ak (a:=D.tup [p.1.nm,.int v,.int u]) (S:=S) rfl ?_⟩;refine⟨_,_,rfl,rfl,?_⟩;rfl';refine wp_mono (MX (n:=n) ⟨o1,o2⟩ ho.kept ho.kl ho.r9 hk.nm v1 v2 u1 w1) λr S1 ⟨er,T1,eS⟩=>?_;subst er eS;have h1:=(hh.kept (iI a.room a.kept p.1.nm v u now)).app (T:=T1);have f1:Fr (λi=>h<=i/\i<h+10) S (S.set (h+1+1) (.aN ((iI a.room a.kept p.1.nm v u now).map kv))++T1):=aU (cR (Fr.refl _ _) λ_=>⟨by omega,by omega⟩);generalize S.set (h+1+1) (.aN ((iI a.room a.kept p.1.nm v u now).map kv))++T1=S1 at h1 f1;have q0:=h1.o0;have q8:=h1.o8;rfl';refine N3 q8 (C7 hk.nm) (by have:=ho.pl;simp[sizeLine];omega) ?_;rw[Oy];have h2:=h1.fM (kU a.fM p.1.nm now v u);have f2:Fr (λi=>h<=i/\i<h+10) S (S1.set (h+8) (iz ((kU a.fM p.1.nm now v u).map ir))):=cR f1 λ_=>⟨by omega,by omega⟩;dsimp only at h2;generalize S1.set (h+8) (iz ((kU a.fM p.1.nm now v u).map ir))=S2 at h2 f2;have q0:=h2.o0;have q7:=h2.o7;rfl';refine⟨q7,cZ hk.nm,j8 ho hk.nm,.ref p.2,by rw[mq,jg ho.wn hp];rfl,?_⟩;rw[Cz];have yc:(eF L p.1.nm).Sublist L:=List.filter_sublist;have h3:=h2.GS yc;have f3:Fr (λi=>h<=i/\i<h+10) S (S2.set (h+7) (.aN ((eF L p.1.nm).map eB))):=cR f2 λ_=>⟨by omega,by omega⟩;generalize S2.set (h+7) (.aN ((eF L p.1.nm).map eB))=S3 at h3 f3;have hw3:=hw.fr f3 λi i1 i2=>by omega
 have q0:=h3.o0;have w0:=hw3.o0;have w1:=hw3.o1;have l3:=h3.lt;rfl';apply fk;rfl';refine cl w1 (by have:=hk.wl;unfold sizeLine;omega) (λy=>decide (y ≠ .int s)) id (λy hy=>⟨?_,λ_=>rfl⟩) ?_
 .apply bE;rfl';refine Ah (gS (jQ (hk.aS y hy)) (by decide)) rfl ?_;rfl';refine⟨?_,rfl⟩;simp
 rw[List.map_id];rfl';refine wp_mono (lY (n:=n+4) (B:=B) (h3.app) (aG _ _) (by omega) (λy hy=>hk.aS y (List.mem_filter.mp hy).1) (Nat.le_trans (List.length_filter_le _ _) hk.wl) (by omega) (Or.inl ⟨_,_,_,rfl,rfl⟩)) λr S' o=>?_;exact o.pre (aU (f3.mono λi _ hi=>Or.inl hi)) λq hq=>Or.inl ⟨q,yc.subset hq,rfl⟩
theorem nG {chk:ae->Bool}{i:Nat}{t:C Bool}{e:C D}{ρ:RF.Env}{S:ae}{f:D->Bool}{g:D->D}(hc:∀T,chk (S++T)=true):∀(xs acc:List D) (T:ae),(∀x∈xs,∀T,(∃T',t (ρ.set i (some x)) (S++T) = .ok (f x) (S++T'))/\(f x=true->e (ρ.set i (some x)) (S++T) = .ok (g x) (S++T)))->acc.length+xs.length<sizeLine ->
 ∃T',bB chk [i] true t (bL e) ρ xs acc (S++T) = .ok (acc++(xs.filter f).map g) (S++T')
 | [],acc,T,_,_=>⟨T,by unfold bB;rw[if_pos (hc T)];simp⟩
 | x::xs,acc,T,hx,hl=>by
  obtain⟨⟨T1,h1⟩,_⟩:=hx x (List.mem_cons_self ..) T;obtain⟨_,h2⟩:=hx x (List.mem_cons_self ..) T1;rw[List.length_cons] at hl
  by_cases q:f x=true
  .obtain⟨T2,ih⟩:=nG hc xs (acc++[g x]) T1 (λy hy=>hx y (List.mem_cons_of_mem _ hy)) (by rw[List.length_append,List.length_singleton];omega);refine⟨T2,?_⟩;unfold bB;rw[if_pos (hc T)];show (t (ρ.set i (some x)) (S++T)).bind _=_;have:bL e acc (ρ.set i (some x)) (S++T1) = .ok (acc++[g x]) (S++T1):=by unfold bL aE;rw[if_pos (decide_eq_true (by omega)),h2 q,R.bJ]
   rw[h1,R.bJ,if_pos q,this,R.bJ,ih,List.filter_cons,if_pos q];simp
  .obtain⟨T2,ih⟩:=nG hc xs acc T1 (λy hy=>hx y (List.mem_cons_of_mem _ hy)) (by omega);refine⟨T2,?_⟩;unfold bB;rw[if_pos (hc T)];show (t (ρ.set i (some x)) (S++T)).bind _=_;rw[h1,R.bJ,if_neg q,ih,List.filter_cons,if_neg q]
def CG (S:ae)(ρ:RF.Env)(t:C Bool)(e:C D)(x:D)(k:List D->ae->Prop):Prop:=∃n xs f g,x = .ref n/\S[n]?=some (.lst xs)/\xs.length<sizeLine/\(∀y∈xs,∀T,(∃T',t (some y::ρ) (S++T) = .ok (f y) (S++T'))/\(f y=true->e (some y::ρ) (S++T) = .ok (g y) (S++T)))/\∀T,k ((xs.filter f).map g) T
theorem cg {S:ae}{ρ:RF.Env}{t:C Bool}{e:C D}{n:Nat}{xs:List D}{k:List D->ae->Prop}(h:S[n]?=some (.lst xs))(hl:xs.length<sizeLine)(f:D->Bool)(g:D->D)(he:∀y∈xs,∀T,(∃T',t (some y::ρ) (S++T) = .ok (f y) (S++T'))/\(f y=true->e (some y::ρ) (S++T) = .ok (g y) (S++T)))(q:∀T,k ((xs.filter f).map g) T):CG S ρ t e (.ref n) k:=⟨n,xs,f,g,rfl,h,hl,he,q⟩
theorem F7 {ρ:RF.Env}{S:ae}{c:C D}{t:C Bool}{e:C D}{Q:D->ae->Prop}(h:Wp (c ρ S) λx S1=>CG S1 ρ t e x λys T=>Q (.ref (S1++T).length) ((S1++T)++[.lst ys])):Wp (cK 1 (.dyn c) [0] true t e ρ S) Q:=by refine wp_bind (cx (by simp[blank,inner]) (wp_bind (wp_mono h λx S1 ⟨n,xs,f,g,e1,h1,hl,he,q⟩=>?_)));subst e1;unfold iu;simp only[h1];obtain⟨T',et⟩:=nG (chk:=eZ (.ref n) xs) (i:=0) (t:=t) (e:=e) (ρ:=inner 1 ρ) (S:=S1) (f:=f) (g:=g) (λT=>decide_eq_true (bz (aO h1))) xs [] [] he (by simpa using hl);rw[List.append_nil] at et;refine(ak et ?_);rw[List.nil_append];exact q T'
theorem BY (n w:Nat)(now:Int)(S:ae)(hw:w=S.length):(ag P (n+1)).m 2 0 [.ref w,.int now] (S++[.obj 2 []]) = .ok .aj (S++[tJ w now,.lst [],.lst [],.lst []]):=by subst hw;rw[yI];apply bE;apply aK;unfold pI;rfl';simp[d6]
structure HW (S:ae)(h:Nat)(a:HA)(L:WL)(x:D)(y:WA)(w:Nat):Prop where
 ha:bt S h a L
 wa:nL S y w
 nm:y.nm=x
 wl:h+10<=w
 cs:(y,w)∈L\/((∀p∈L,p.1.nm≠x)/\∀p∈L,p.2+4<=w)
theorem qx {L:WL}{x:D}{y:WA}(h:∀p∈L,p.1.nm≠x):bN L x y=L:=by
 unfold bN;have:L.map (λq=>if q.1.nm=x then (y,q.2) else q)=L.map id:=by apply List.map_congr_left;intro q hq;rw[if_neg (h q hq)];rfl
 rw[this,List.map_id]
theorem HW.upd {S S':ae}{h:Nat}{a:HA}{L:WL}{x:D}{y y':WA}{w:Nat}(hw:HW S h a L x y w)(hn:((L.map (·.1)).map (·.nm)).Nodup)(hf:Fr (λi=>w<=i/\i<w+4) S S')(h':nL S' y' w)(hy:y'.nm=x):HW S' h a (bN L x y') x y' w:=by
 obtain⟨h1,h2,h3,h4,h5⟩:=hw;rcases h5 with h5 | ⟨h5,h6⟩
 .have e:=h1.Kl hn h5 hf h' (by rw[hy,<-h3]);have m:=yQ hn (y:=y') h5;dsimp only at e m;rw[h3] at e m;exact⟨e,h',hy,h4,Or.inl m⟩
 .rw[qx h5];refine⟨h1.fr hf λi hi=>?_,h',hy,h4,Or.inr ⟨h5,h6⟩⟩;rcases hi with hi | ⟨p,hp,i1,i2⟩
  .omega
  .have:=h6 p hp;omega
theorem HW.app {S T:ae}{h:Nat}{a:HA}{L:WL}{x:D}{y:WA}{w:Nat}(hw:HW S h a L x y w):HW (S++T) h a L x y w:=⟨hw.ha.app,hw.wa.fr (Fr.app no S T) λ_ _ _ h=>h,hw.nm,hw.wl,hw.cs⟩
def gi (L:WL)(x:D)(y:WA)(w:Nat):WL:=if L.any (λp=>decide (p.1.nm=x))=true then L else L++[(y,w)]
theorem HW.put {S:ae}{h:Nat}{a:HA}{L:WL}{x:D}{y:WA}{w:Nat}(hw:HW S h a L x y w)(hn:((L.map (·.1)).map (·.nm)).Nodup):putD (L.map eB) x (.ref w)=(gi L x y w).map eB/\bt (S.set (h+7) (.aN ((gi L x y w).map eB))) h a (gi L x y w):=by
 obtain⟨h1,h2,h3,h4,h5⟩:=hw;have hl:=h1.lt;unfold gi;rcases h5 with h5 | ⟨h5,h6⟩
 .have ha:(L.any λp=>decide (p.1.nm=x))=true:=List.any_eq_true.mpr ⟨_,h5,decide_eq_true h3⟩;rw[if_pos ha];refine⟨?_,?_⟩
  .unfold putD;rw[if_pos (by rw[List.any_map];exact ha),List.map_map];apply List.map_congr_left;intro q hq;show (if q.1.nm=x then (q.1.nm,D.ref w) else eB q)=eB q;split
   .rename_i e;have f1:=jg hn hq;have f2:=jg hn h5;dsimp only at f2;rw[e] at f1;rw[h3,f1] at f2;cases f2;rfl
   .rfl
  .rw[<-set_same h1.o7];exact h1
 .have ha:¬(L.any λp=>decide (p.1.nm=x))=true:=by rw[List.any_eq_true];rintro⟨p,hp,e⟩;exact h5 p hp (by simpa using e)
  rw[if_neg ha];refine⟨?_,?_⟩
  .rw[zz,List.map_append]
   .simp[eB,h3]
   .intro p hp;obtain⟨q,hq,rfl⟩:=List.mem_map.mp hp;exact h5 q hq
  .obtain⟨o0,o1,o2,o3,o4,o5,o6,o7,o8,o9,ws,lo,ap⟩:=h1;have hf:Fr (· = h+7) S (S.set (h+7) (.aN ((L++[(y,w)]).map eB))):=Fr.set _ _ _ _ rfl;refine⟨by ac_rfl,by ac_rfl,by ac_rfl,by ac_rfl,by ac_rfl,by ac_rfl,by ac_rfl,by ac_rfl,by ac_rfl,by ac_rfl,λp hp=>?_,λp hp=>?_,?_⟩
   .rcases List.mem_append.mp hp with hp | hp
    .exact(ws p hp).fr hf λi i1 i2=>by have:=lo p hp;omega
    .rw[List.mem_singleton.mp hp];exact h2.fr hf λi i1 i2=>by omega
   .rcases List.mem_append.mp hp with hp | hp
    .exact lo p hp
    .rw[List.mem_singleton.mp hp];exact h4
   .rw[List.pairwise_append];refine⟨ap,by simp,λp hp q hq=>?_⟩;rw[List.mem_singleton.mp hq];exact Or.inl (h6 p hp)
def aI (aS:List D)(k:D):List D:=if k∈aS then aS else aS++[k]
def dS (t:List Int)(y:WA):List Int:=t.filter λs=>!decide (s∈y.asked)&&(!decide (s∈y.gz) && !decide (y.aS=[.int s]))
def ba (t:List Int)(k:D)(y:WA):WA:={ y with aS:=aI y.aS k,asked:=y.asked++dS t { y with aS:=aI y.aS k } }
def lA (cl:Calls):List CS:=[(bA (av (aB .NotIn (aa 1) (aH (aa 5) 6))) (ah [(bh (az T.aJ cl.m (some 3) (some .append) (aH (aa 5) 6) [(aa 1)]))]) (ah [])),(bf 6 (cK 1 (.dyn (az T.aJ cl.m (some 39) none (aa 0) [(aa 2)])) [0] true (iH (av (aB .NotIn (aa 0) (aH (aa 6) 5))) (iH (av (aB .NotIn (aa 0) (aH (aa 6) 23))) (av (aB .NotEq (aH (aa 6) 6) (aR [(aa 0)]))))) (aa 0))),(bh (az T.aJ cl.m (some 13) (some .extend) (aH (aa 5) 5) [(aa 6)])),(bA (df (cw (aH (aa 5) 5))) (ah [(retS (az T.aJ cl.m (some 36) none (aa 0) [(aR [(aa 1)]),(bp [(cE (.str "no")),(aa 2)])]))]) (ah [])),(iw (aH (aa 0) 40) (aa 2) (aa 5)),(retS (cK 1 (.dyn (aa 6)) [0] true always (bp [(aa 0),(bp [(cE (.str "ask")),(aa 3)])])))]
def il (x:D)(l:List Int):List D:=l.map λs=>.tup [.int s,Eo x]
theorem Pj {h:Nat}{L:WL}{x:D}{y:WA}{i:Nat}:In h (bN L x y) i->In h L i:=by
 rintro (hi | ⟨p,hp,i1,i2⟩)
 .exact Or.inl hi
 .obtain⟨q,hq,e,_⟩:=lC hp;exact Or.inr ⟨q,hq,by omega,by omega⟩
theorem gO {l:List Int}{n:Nat}:∀y∈l.map D.int,bK (n+1) y=true:=λy hy=>by obtain⟨i,_,rfl⟩:=List.mem_map.mp hy;rfl
def AL (h:Nat)(a:HA)(L:WL)(x k:D)(y:WA)(w:Nat)(t:List Int)(S:ae)(v:D)(S':ae):Prop:=
 ∃r,v = .ref r/\S.length<=r/\Fr (λi=>In h L i\/(w<=i/\i<w+4)) S S' /\
  ((ba t k y).asked=[]->(S'[r]?=some (.lst (lettersOf [k] (gY x)))/\bt S' h { a with ends:=bx a.ends [k] (.tup [.aj]) } (bN L x (ba t k y))/\¬In h (bN L x (ba t k y)) r)) /\
  (¬(ba t k y).asked=[]->(S'[r]?=some (.lst (il x (dS t { y with aS:=aI y.aS k })))/\bt S' h a (gi (bN L x (ba t k y)) x (ba t k y) w)/\¬In h (gi (bN L x (ba t k y)) x (ba t k y) w) r))
theorem zP {n h:Nat}{a:HA}{L:WL}{B:Nat}{x k:D}{y:WA}{w:Nat}{now:Int}{S:ae}{r4:Option D}(hw:HW S h a L x y w)(ho:aT a (L.map (·.1)) B)(hx:aM x)(hk:dD a.ends.length k)(hy:∀z∈y.aS,dD a.ends.length z)(b1:y.aS.length<=B)(b2:y.asked.length<=8*B)(D2:(cB a x).length<=8):
 Wf (ah (lA (ag P (n+6))) [some (.ref h),some k,some x,some (.int now),r4,some (.ref w),none] S) { nx:=λ_ _=>False,rt:=AL h a L x k y w (cB a x) S }:=by
 have hb:=ho.bl;have hl:=hw.ha.lt;have mX:=hw.wa.lt;have hlo:=hw.wl;generalize ht:cB a x=t at D2;have h1:HW (S.set (w+1) (.lst (aI y.aS k))) h a (bN L x { y with aS:=aI y.aS k }) x { y with aS:=aI y.aS k } w:=by obtain⟨w0,w1,w2,w3⟩:=hw.wa;exact hw.upd ho.wn (cR (Fr.refl _ _) λ_=>⟨by omega,by omega⟩) ⟨by ac_rfl,by ac_rfl,by ac_rfl,by ac_rfl⟩ hw.nm
 have f1:Fr (λi=>In h L i\/(w<=i/\i<w+4)) S (S.set (w+1) (.lst (aI y.aS k))):=cR (Fr.refl _ _) λ_=>Or.inr ⟨by omega,by omega⟩;unfold lA;apply aF
 suffices hs:Wf (ah ((lA (ag P (n+6))).drop 1) [some (.ref h),some k,some x,some (.int now),r4,some (.ref w),none] (S.set (w+1) (.lst (aI y.aS k)))) { nx:=λ_ _=>False,rt:=AL h a L x k y w t S } by
  have w0:=hw.wa.o0;have w1:=hw.wa.o1;apply dH;rfl';refine jI w1 (jQ hk) (λz hz=>jQ (hy z hz)) ?_;rfl';refine f7 (λhc=>?_) (λhc=>?_)
  .apply bO;have e:aI y.aS k=y.aS:=if_pos hc;rw[e,<-set_same w1] at hs;exact hs
  .have e:aI y.aS k=y.aS++[k]:=if_neg hc;rw[e] at hs;apply aF;apply oN;rfl';refine⟨_,w1,by unfold sizeLine;omega,?_⟩;exact hs
 have n1:(((bN L x { y with aS:=aI y.aS k }).map (·.1)).map (·.nm)).Nodup:=by have:=og (L:=L) (x:=x) (y:={ y with aS:=aI y.aS k }) hw.nm;rw[this];exact ho.wn
 have wb:(aI y.aS k).length<=B+1:=by
  unfold aI;split
  .omega
  .simp;omega
 have wk:∀z∈aI y.aS k,dD a.ends.length z:=by
  intro z hz;unfold aI at hz;split at hz
  .exact hy z hz
  .rcases List.mem_append.mp hz with hz | hz
   .exact hy z hz
   .rw[List.mem_singleton.mp hz];exact hk
 have e2:bN (bN L x { y with aS:=aI y.aS k }) x (ba t k y)=bN L x (ba t k y):=by
  unfold bN;rw[List.map_map];apply List.map_congr_left;intro q _;show (if (if q.1.nm=x then ({ y with aS:=aI y.aS k },q.2) else q).1.nm=x then (ba t k y,(if q.1.nm=x then ({ y with aS:=aI y.aS k },q.2) else q).2) else (if q.1.nm=x then ({ y with aS:=aI y.aS k },q.2) else q))=_
  by_cases h:q.1.nm=x
  .rw[if_pos h,if_pos hw.nm,if_pos h]
  .rw[if_neg h,if_neg h]
 generalize hS1:S.set (w+1) (.lst (aI y.aS k))=S1 at h1 f1;have l1:S1.length=S.length:=by rw[<-hS1];simp
 show Wf (ah [_,_,_,_,_] _ _) _;apply aF;apply eD;apply F7;have q0:=h1.ha.o0;rfl';refine ak (Dq (n:=n) h1.ha ho.held hx) ?_;rw[ht];have h2:=h1.app (T:=[.lst ((c8 a.held x).map .int),.lst (t.map .int)]);have f2:Fr (λi=>In h L i\/(w<=i/\i<w+4)) S (S1++[.lst ((c8 a.held x).map .int),.lst (t.map .int)]):=aU f1;have g2:(S1++[.lst ((c8 a.held x).map .int),.lst (t.map .int)])[S1.length+1]?=some (.lst (t.map .int)):=qL _ 1 _;have l2:(S1++[O.lst ((c8 a.held x).map .int),.lst (t.map .int)]).length=S1.length+2:=by simp
 generalize S1++[.lst ((c8 a.held x).map .int),.lst (t.map .int)]=S2 at h2 f2 g2 l2;obtain⟨w0,w1,w2,w3⟩:=h2.wa;dsimp only at w1 w2 w3;refine cg g2 (by simp[sizeLine];omega) (λz=>match z with | .int s=>(!decide (s∈y.asked)&&(!decide (s∈y.gz) && !decide (aI y.aS k=[.int s]))) | _=>false) id (λz hz T=>?_) (λT=>?_)
 .obtain⟨s,hs,rfl⟩:=List.mem_map.mp hz;refine⟨?_,λ_=>rfl⟩
  suffices hz:Wp (iH (av (aB .NotIn (aa 0) (aH (aa 6) 5))) (iH (av (aB .NotIn (aa 0) (aH (aa 6) 23))) (av (aB .NotEq (aH (aa 6) 6) (aR [(aa 0)])))) [some (.int s),some (.ref h),some k,some x,some (.int now),r4,some (.ref w),none] (S2++T)) λb S'=>b=(!decide (s∈y.asked)&&(!decide (s∈y.gz) && !decide (aI y.aS k=[.int s])))/\∃T',S'=S2++T' by obtain⟨b,S',e,rfl,T',rfl⟩:=vA hz;exact⟨T',e⟩
  have v0:=aO (T:=T) w0;have v1:=aO (T:=T) w1;have v2:=aO (T:=T) w2;have v3:=aO (T:=T) w3;rfl';refine jI v2 rfl gO ?_;rfl';refine f7 (λhc=>?_) (λhc=>?_)
  .exact⟨by rw[decide_eq_true (fD.mp hc)];rfl,_,rfl⟩
  rw[decide_eq_false λe=>hc (fD.mpr e)];rfl';refine jI v3 rfl gO ?_;rfl';refine f7 (λhc=>?_) (λhc=>?_)
  .exact⟨by rw[decide_eq_true (fD.mp hc)];rfl,_,rfl⟩
  rw[decide_eq_false λe=>hc (fD.mpr e)];rfl';refine sV (aO v1) (aG _ _) (λz hz=>gS (jQ (wk z hz)) (by decide)) (λz hz=>by rw[List.mem_singleton.mp hz];rfl) ?_;rfl';exact⟨rfl,T++[.lst [.int s]],by simp⟩
 generalize hfr:dS t { y with aS:=aI y.aS k }=fr;have ey:((t.map D.int).filter λz=>match z with | .int s=>(!decide (s∈y.asked)&&(!decide (s∈y.gz) && !decide (aI y.aS k=[.int s]))) | _=>false).map id=fr.map D.int:=by rw[List.map_id,List.filter_map,<-hfr];rfl
 have frl:fr.length<=8:=by rw[<-hfr];exact Nat.le_trans (List.length_filter_le _ _) D2
 have hj:ba t k y={ y with aS:=aI y.aS k,asked:=y.asked++fr }:=by rw[<-hfr];rfl
 rw[ey];have h3:=(h2.app (T:=T)).app (T:=[.lst (fr.map .int)]);have f3:Fr (λi=>In h L i\/(w<=i/\i<w+4)) S (S2++T++[.lst (fr.map .int)]):=aU (aU f2);have g3:(S2++T++[.lst (fr.map .int)])[(S2++T).length]?=some (.lst (fr.map .int)):=aG _ _;have l3:S2.length<=(S2++T).length:=by simp
 generalize (S2++T).length=rf at g3 l3;generalize S2++T++[.lst (fr.map .int)]=S3 at h3 f3 g3;clear w0 w1 w2 w3 g2;have hl3:=h3.ha.lt;have hw3:=h3.wa.lt;obtain⟨w0,w1,w2,w3⟩:=h3.wa;dsimp only at w1 w2 w3;show Wf (ah [_,_,_,_] [some (.ref h),some k,some x,some (.int now),r4,some (.ref w),some (.ref rf)] S3) _;apply aF;apply oN;rfl';refine⟨rf,_,rfl,w2,g3,by simp[sizeLine];omega,?_⟩;have h4:HW (S3.set (w+2) (.lst (y.asked.map .int++fr.map .int))) h a (bN L x (ba t k y)) x (ba t k y) w:=by have:=h3.upd (y':=ba t k y) (S':=S3.set (w+2) (.lst (y.asked.map .int++fr.map .int))) n1 (cR (Fr.refl _ _) λ_=>⟨by omega,by omega⟩) (by rw[hj];exact⟨by ac_rfl,by ac_rfl,by show _=some (O.lst ((y.asked++fr).map .int));rw[List.map_append];exact dA w2,by ac_rfl⟩) hw.nm;rw[e2] at this;exact this
 have f4:Fr (λi=>In h L i\/(w<=i/\i<w+4)) S (S3.set (w+2) (.lst (y.asked.map .int++fr.map .int))):=cR f3 λ_=>Or.inr ⟨by omega,by omega⟩;have g4:(S3.set (w+2) (.lst (y.asked.map .int++fr.map .int)))[rf]?=some (.lst (fr.map .int)):=ky g3 (by omega);generalize S3.set (w+2) (.lst (y.asked.map .int++fr.map .int))=S4 at h4 f4 g4;have hl4:=h4.ha.lt;have q0:=h4.ha.o0;have q7:=h4.ha.o7;have w0:=h4.wa.o0;have w2:=h4.wa.o2;have hSS:S.length<=S4.length:=f4.1;rfl';refine f7 (λhc=>?_) (λhc=>?_)
 .have hc:(ba t k y).asked=[]:=by simpa using hc
  rfl';refine wp_mono (lY (n:=n+5) (B:=1) h4.ha.app (aG _ _) (by omega) (λz hz=>by rw[List.mem_singleton.mp hz];exact hk) (by simp) (by omega) (Or.inr ⟨_,rfl,rfl⟩)) λv S' ⟨r,e,r1,r2,r3,r4,r5,r6⟩=>?_;subst e;rw[List.length_append] at r1;refine⟨r,rfl,by omega,(aU f4).trans r4 λi _ hi=>Or.inl (Pj hi),λ_=>⟨r2,r3,r6⟩,λhn=>absurd hc hn⟩
 .have hc:¬(ba t k y).asked=[]:=by simpa using hc
  have n4:(((bN L x (ba t k y)).map (·.1)).map (·.nm)).Nodup:=by have:=og (L:=L) (x:=x) (y:=ba t k y) hw.nm;rw[this];exact ho.wn
  obtain⟨ep,h5⟩:=h4.put n4;rfl';refine vD q7 (kM hx) (by rw[wz (y:=ba t k y) hw.nm];exact j8 ho hx) (by rw[wz (y:=ba t k y) hw.nm];have:=ho.ll;simp[sizeLine] at this ⊢;omega) ?_;rw[ep];have f5:Fr (λi=>In h L i\/(w<=i/\i<w+4)) S (S4.set (h+7) (.aN ((gi (bN L x (ba t k y)) x (ba t k y) w).map eB))):=cR f4 λ_=>Or.inl (vP (by omega) (by omega));have g5:(S4.set (h+7) (.aN ((gi (bN L x (ba t k y)) x (ba t k y) w).map eB)))[rf]?=some (.lst (fr.map .int)):=ky g4 (by omega);generalize S4.set (h+7) (.aN ((gi (bN L x (ba t k y)) x (ba t k y) w).map eB))=S5 at h5 f5 g5;apply aF;apply jd;apply fk;rfl';refine cl g5 (by simp[sizeLine];omega) (λ_=>true) (λz=>.tup [z,Eo x]) (λz hz=>⟨rfl,λ_=>rfl⟩) ?_;refine⟨_,rfl,f5.1,aU f5,λhn=>absurd hn hc,λ_=>⟨?_,h5.app,h5.fresh (Nat.le_refl _)⟩⟩;rw[aG,hfr,List.filter_eq_self.mpr (by simp),List.map_map];rfl
def waitOf (ws:List WA)(x:D)(now:Int):WA:=(ws.find? λy=>decide (y.nm=x)).getD ⟨x,now,[],[],[]⟩
def hZ (ws:List WA)(x:D)(y:WA):List WA:=if ws.any (λz=>decide (z.nm=x))=true then ws.map λz=>if z.nm=x then y else z else ws++[y]
def fZ (a:HA)(ws:List WA)(k x:D)(now:Int):HA×List WA×List D:=match iW a x now with
 | some (v,u)=>({ a with kept:=cI a x now,ends:=bx a.ends [k] (.tup [.int v]) },ws,lettersOf [k] (de x v u))
 | none=>if (ba (cB a x) k (waitOf ws x now)).asked=[] then ({ a with kept:=cI a x now,ends:=bx a.ends [k] (.tup [.aj]) },ws,lettersOf [k] (gY x))
  else ({ a with kept:=cI a x now },hZ ws x (ba (cB a x) k (waitOf ws x now)),il x (dS (cB a x) { waitOf ws x now with aS:=aI (waitOf ws x now).aS k }))
theorem Dd {L:WL}{x:D}{now:Int}:waitOf (L.map (·.1)) x now=((eC L x).map (·.1)).getD ⟨x,now,[],[],[]⟩:=by unfold waitOf eC;rw[List.find?_map];rfl
theorem v7 {L:WL}{x:D}{y:WA}{w:Nat}(hy:y.nm=x):(gi (bN L x y) x y w).map (·.1)=hZ (L.map (·.1)) x y:=by
 have ha:(bN L x y).any (λp=>decide (p.1.nm=x))=(L.map (·.1)).any λz=>decide (z.nm=x):=by
  unfold bN;rw[List.any_map,List.any_map]
  congr 1
  funext q
  show decide ((if q.1.nm=x then (y,q.2) else q).1.nm=x)=decide (q.1.nm=x)
  by_cases h:q.1.nm=x
  .rw[if_pos h];simp[hy,h]
  .rw[if_neg h]
 unfold gi hZ;rw[ha];split
 .exact lE
 .rename_i h;have hn:∀p∈L,p.1.nm≠x:=λp hp e=>h (List.any_eq_true.mpr ⟨p.1,List.mem_map.mpr ⟨p,hp,rfl⟩,decide_eq_true e⟩);rw[qx hn];simp
theorem rG {a:HA}{x:D}(h:jW a.held):(cB a x).length<=8:=by
 refine Nat.le_trans (List.length_filter_le _ _) ?_;unfold c8;cases hw:dX a.held (partsOf x) (partsOf x).length with
 | none=>simp
 | some p=>
  have sN:∀y s,eG a.held y=some s->s.length<=8:=by
   intro y s e;unfold eG at e;cases hf:a.held.find? λp=>decide (p.1=y) with
   | none=>simp[hf] at e
   | some q=>rw[hf] at e;have:=(h q (List.mem_of_find?_eq_some hf)).2.2.1;simp at e;rw[<-e];exact this
  have:∀m,dX a.held (partsOf x) m=some p->p.2.length<=8:=by
   intro m
   induction m with
   | zero=>
    intro e;simp only[dX] at e;cases hk:eG a.held (.tup ((partsOf x).take 0)) with
    | none=>rw[hk] at e;cases e
    | some s=>rw[hk] at e;simp only[Option.map_some,Option.some.injEq] at e;rw[<-e];exact sN _ _ hk
   | succ m ih=>
    intro e;simp only[dX] at e;cases hk:eG a.held (.tup ((partsOf x).take (m+1))) with
    | none=>rw[hk] at e;exact ih e
    | some s=>rw[hk] at e;simp at e;rw[<-e];exact sN _ _ hk
  exact this _ hw
theorem wL {h:Nat}{a:HA}{L:WL}{x k:D}{y:WA}{w:Nat}{t:List Int}{S S2:ae}{v:D}{S':ae}(hw:HW S2 h a L x y w)(hf:Fr (In h L) S S2)(hc:(y,w)∈L\/((∀p∈L,p.1.nm≠x)/\S.length<=w))(hA:∀p∈L,p.1.asked≠[])(ht:AL h a L x k y w t S2 v S'):
 ((ba t k y).asked=[]->Out S h L { a with ends:=bx a.ends [k] (.tup [.aj]) } L (lettersOf [k] (gY x)) v S') /\
 (¬(ba t k y).asked=[]->Out S h L a (gi (bN L x (ba t k y)) x (ba t k y) w) (il x (dS t { y with aS:=aI y.aS k })) v S'):=by
 obtain⟨r,e,r1,r2,r3,r4⟩:=ht;have hF:Fr (In h L) S S':=hf.trans r2 λi hi du=>by
  rcases du with du | du
  .exact du
  .rcases hc with hc | ⟨_,hc⟩
   .exact Or.inr ⟨_,hc,du.1,du.2⟩
   .omega
 refine⟨λhz=>?_,λhz=>?_⟩
 .obtain⟨s1,s2,s3⟩:=r3 hz;have hn:∀p∈L,p.1.nm≠x:=by
   rcases hc with hc | ⟨hc,_⟩
   .have:=hA _ hc;have hz:y.asked++dS t { y with aS:=aI y.aS k }=[]:=hz;exact absurd (List.append_eq_nil_iff.mp hz).1 this
   .exact hc
  rw[qx hn] at s2 s3;exact⟨r,e,Nat.le_trans hf.1 r1,s1,s2,hF,λp hp=>Or.inl ⟨p,hp,rfl⟩,s3⟩
 .obtain⟨s1,s2,s3⟩:=r4 hz;refine⟨r,e,Nat.le_trans hf.1 r1,s1,s2,hF,λp hp=>?_,s3⟩;have:p∈bN L x (ba t k y)\/(p.2=w/\¬(bN L x (ba t k y)).any (λp=>decide (p.1.nm=x))=true):=by
   unfold gi at hp;split at hp
   .exact Or.inl hp
   .rename_i hq;rcases List.mem_append.mp hp with hp | hp
    .exact Or.inl hp
    .rw[List.mem_singleton.mp hp];exact Or.inr ⟨rfl,hq⟩
  rcases this with hp | ⟨e,hq⟩
  .obtain⟨q,hq,e,_⟩:=lC hp;exact Or.inl ⟨q,hq,e⟩
  .rw[e];rcases hc with hc | ⟨_,hc⟩
   .exact Or.inl ⟨_,hc,rfl⟩
   .exact Or.inr hc
theorem Fz {rows:List Row}{x:D}{now:Int}{r:Row}(h:gy rows x now=some r):r∈rows/\r.1=x/\now<r.2.2:=by refine⟨List.mem_of_find?_eq_some h,?_⟩;have:=List.find?_some h;simpa using this
theorem Jq {rows:List Row}{x:D}{now:Int}(h:cY rows):cY (fH rows x now)/\(fH rows x now).length<=rows.length:=by
 unfold fH;cases hr:gy rows x now with
 | none=>exact⟨h,Nat.le_refl _⟩
 | some r=>
  obtain⟨h1,h2,_⟩:=Fz hr;refine⟨xE (nE h (gP _ _)) (λs hs=>by rw[h2];exact lM rows x s hs) (h.2 r h1),?_⟩;have:(bG rows x).length<rows.length:=by unfold bG;rw[List.length_filter_lt_length_iff_exists];exact⟨r,h1,by simp[h2]⟩
  rw[List.length_append,List.length_singleton];exact this
theorem aT.found {a:HA}{ws:List WA}{B:Nat}(ho:aT a ws B)(x:D)(now:Int):aT { a with kept:=cI a x now } ws B:=by
 have hk:cY (cI a x now)/\(cI a x now).length<=a.kept.length:=by
  unfold cI;cases a.things.find? λr=>decide (r.1=x) with
  | some _=>exact⟨ho.kept,Nat.le_refl _⟩
  | none=>exact Jq ho.kept
 obtain⟨h1,h2,h3,h4,h5,h6,h7,h8,h9,wn,wk,el,pn,pl,ll,bl⟩:=ho;exact⟨h1,h2,h3,hk.1,by have:=hk.2;show ((cI a x now).length:Int)<=a.room;omega,h6,h7,h8,h9,wn,wk,el,pn,pl,ll,bl⟩
theorem aT.ends {a:HA}{ws:List WA}{B:Nat}(ho:aT a ws B)(l:List D)(hl:l.length=a.ends.length):aT { a with ends:=l } ws B:=by obtain⟨h1,h2,h3,h4,h5,h6,h7,h8,h9,wn,wk,el,pn,pl,ll,bl⟩:=ho;exact⟨h1,h2,h3,h4,h5,h6,h7,h8,h9,wn,by show ∀p∈ws,pO l.length B p;rw[hl];exact wk,by show l.length<=B;omega,pn,pl,ll,bl⟩
theorem aT.ws {a:HA}{ws ws':List WA}{B:Nat}(ho:aT a ws B)(hn:(ws'.map λp=>p.nm).Nodup)(hk:∀p∈ws',pO a.ends.length B p)(hl:ws'.length<=B):aT a ws' B:=by obtain⟨h1,h2,h3,h4,h5,h6,h7,h8,h9,wn,wk,el,pn,pl,ll,bl⟩:=ho;exact⟨h1,h2,h3,h4,h5,h6,h7,h8,h9,hn,hk,el,pn,pl,hl,bl⟩
theorem I9 {ws:List WA}{x:D}{now:Int}:(waitOf ws x now).nm=x/\(waitOf ws x now∈ws\/((∀z∈ws,z.nm≠x)/\waitOf ws x now=⟨x,now,[],[],[]⟩)):=by
 unfold waitOf;cases hf:ws.find? λy=>decide (y.nm=x) with
 | none=>exact⟨rfl,Or.inr ⟨λz hz=>by simpa using List.find?_eq_none.mp hf z hz,rfl⟩⟩
 | some y=>exact⟨by simpa using List.find?_some hf,Or.inl (List.mem_of_find?_eq_some hf)⟩
theorem HV {m B:Nat}{x k:D}{y:WA}{t:List Int}(hy:pO m B y\/(aM y.nm/\y.aS=[]/\y.asked=[]/\y.gz=[]))(hk:dD m k)(ht:t.length<=8):pO m (B+1) (ba t k y):=by
 have hy':pO m B y:=by
  rcases hy with hy | ⟨h1,h2,h3,h4⟩
  .exact hy
  .exact⟨h1,by simp[h2],by simp[h2],by simp[h3],by simp[h4],by simp[h2]⟩
 obtain⟨k1,k2,k3,k4,k5,k6⟩:=hy';have hf:(dS t { y with aS:=aI y.aS k }).length<=8:=Nat.le_trans (List.length_filter_le _ _) ht;refine⟨k1,λz hz=>?_,?_,?_,by show y.gz.length<=B+1;omega,?_⟩
 .have hz:z∈aI y.aS k:=hz;unfold aI at hz;split at hz
  .exact k2 z hz
  .rcases List.mem_append.mp hz with hz | hz
   .exact k2 z hz
   .rw[List.mem_singleton.mp hz];exact hk
 .show (aI y.aS k).length<=B+1;unfold aI;split
  .omega
  .simp;omega
 .show (y.asked++_).length<=_;rw[List.length_append];omega
 .show (aI y.aS k).Nodup;unfold aI;split
  .exact k6
  .rename_i h;rw[List.nodup_append];refine⟨k6,by simp,λa ha b hb=>?_⟩;rw[List.mem_singleton.mp hb];exact λe=>h (e ▸ ha)
theorem Bb {ws:List WA}{x:D}{y:WA}(hy:y.nm=x)(hn:(ws.map λp=>p.nm).Nodup):((hZ ws x y).map λp=>p.nm).Nodup:=by
 unfold hZ;split
 .rw[List.map_map];have:ws.map ((λp:WA=>p.nm) ∘ λz=>if z.nm=x then y else z)=ws.map λp=>p.nm:=by
   apply List.map_congr_left;intro z _;show (if z.nm=x then y else z).nm=z.nm;split
   .rename_i h;rw[hy,h]
   .rfl
  rw[this];exact hn
 .rename_i h;rw[List.map_append,List.nodup_append];refine⟨hn,by simp,λa ha b hb=>?_⟩;obtain⟨z,hz,rfl⟩:=List.mem_map.mp ha;have:b=x:=by simpa[hy] using hb
  rw[this];exact λe=>h (List.any_eq_true.mpr ⟨z,hz,decide_eq_true e⟩)
theorem v9 {ws:List WA}{x:D}{y z:WA}(hz:z∈hZ ws x y):z=y\/z∈ws:=by
 unfold hZ at hz;split at hz
 .obtain⟨q,hq,e⟩:=List.mem_map.mp hz;split at e
  .exact Or.inl e.symm
  .rw[<-e];exact Or.inr hq
 .rcases List.mem_append.mp hz with hz | hz
  .exact Or.inr hz
  .exact Or.inl (List.mem_singleton.mp hz)
theorem Eu {ws:List WA}{x:D}{y:WA}:(hZ ws x y).length<=ws.length+1:=by unfold hZ;split<;>simp
theorem zM {a:HA}{ws:List WA}{B:Nat}{x k:D}{now:Int}(ho:aT a ws B)(hB:B+1<=100000)(hx:aM x)(hk:dD a.ends.length k):aT (fZ a ws k x now).1 (fZ a ws k x now).2.1 (B+1):=by
 have gv:=(ho.found x now).mono (Nat.le_succ B) hB;unfold fZ;cases iW a x now with
 | some p=>exact gv.ends _ (fi _ _ _)
 | none=>
  dsimp only;split
  .exact gv.ends _ (fi _ _ _)
  .obtain⟨e,hc⟩:=I9 (ws:=ws) (x:=x) (now:=now);refine gv.ws (Bb e ho.wn) (λz hz=>?_) (Nat.le_trans Eu (by have:=ho.ll;omega));rcases v9 hz with rfl | hz
   .refine HV (x:=x) ?_ hk (rG ho.held);rcases hc with hc | ⟨_,hc⟩
    .exact Or.inl (ho.wk _ hc)
    .rw[hc];exact Or.inr ⟨hx,rfl,rfl,rfl⟩
   .exact gv.wk z hz
theorem uK {a:HA}{ws:List WA}{x k:D}{now:Int}(hA:∀z∈ws,z.asked≠[]):∀z∈(fZ a ws k x now).2.1,z.asked≠[]:=by
 unfold fZ;cases iW a x now with
 | some p=>exact hA
 | none=>
  dsimp only;split
  .exact hA
  .rename_i h;intro z hz;rcases v9 hz with rfl | hz
   .exact h
   .exact hA z hz
theorem pU {n h:Nat}{a:HA}{L:WL}{B:Nat}{x k:D}{now:Int}{S:ae}(hh:bt S h a L)(ho:aT a (L.map (·.1)) B)(hA:∀p∈L,p.1.asked≠[])(hx:aM x)(hk:dD a.ends.length k)(hw:0<=now):
 Wp ((ag P (n+7)).m 3 2 [.ref h,k,x,.int now] S) λv S'=>∃L',L'.map (·.1)=(fZ a (L.map (·.1)) k x now).2.1/\Out S h L (fZ a (L.map (·.1)) k x now).1 L' (fZ a (L.map (·.1)) k x now).2.2 v S':=by
 have hl:=hh.lt;have hb:=ho.bl;have o0:=hh.o0;rw[qQ];apply aK;unfold j0;rfl';refine ak (EY (n:=n+1) hh ho hx hw) ?_;have h1:=hh.kept (cI a x now);have f1:Fr (In h L) S (S.set (h+1+1) (.aN ((cI a x now).map kv))):=cR (Fr.refl _ _) λ_=>vP (by omega) (by omega);generalize S.set (h+1+1) (.aN ((cI a x now).map kv))=S1 at h1 f1;have l1:=h1.lt;have q0:=h1.o0;have q7:=h1.o7;unfold fZ;cases hr:iW a x now with
 | some p=>obtain⟨v,u⟩:=p;show Wf (ah (_::_) [some (.ref h),some k,some x,some (.int now),some (pairD (v,u)),none,none] S1) _;unfold pairD;apply aF;apply dH;rfl';refine jr (λe=>by cases e) ?_;rfl';refine wp_mono (lY (n:=n+5) (B:=1) h1.app (aG _ _) (by omega) (λz hz=>by rw[List.mem_singleton.mp hz];exact hk) (by simp) (by omega) (Or.inl ⟨_,_,_,rfl,rfl⟩)) λv S' o=>?_;exact⟨L,rfl,o.pre (aU f1) λq hq=>Or.inl ⟨q,hq,rfl⟩⟩
 | none=>
  show Wf (ah (_::_::lA (ag P (n+6))) [some (.ref h),some k,some x,some (.int now),some .aj,none,none] S1) _;apply aF;apply dH;rfl';refine d9 rfl ?_;apply bO;show Wf (ah (_::lA (ag P (n+6))) [some (.ref h),some k,some x,some (.int now),some .aj,none,none] S1) _;apply aF;apply eD;rfl';apply oQ;rfl';refine ak (BY (n+5) _ now S1 rfl) ?_;refine⟨rfl,?_⟩;have h2:=h1.app (T:=[tJ S1.length now,.lst [],.lst [],.lst []]);have f2:Fr (In h L) S (S1++[tJ S1.length now,.lst [],.lst [],.lst []]):=aU f1;have w2:nL (S1++[tJ S1.length now,.lst [],.lst [],.lst []]) ⟨x,now,[],[],[]⟩ S1.length:=⟨qL _ 0 _,qL _ 1 _,qL _ 2 _,qL _ 3 _⟩;have g2:∀p∈L,p.2+4<=S1.length:=λp hp=>(h1.ws p hp).lt;have l2:=f1.1;generalize S1++[tJ S1.length now,.lst [],.lst [],.lst []]=S2 at h2 f2 w2;refine⟨h2.o7,cZ hx,j8 ho hx,?_⟩;rw[mq,Dd];have gv:aT { a with kept:=cI a x now } (L.map (·.1)) B:=ho.found x now;have D2:(cB { a with kept:=cI a x now } x).length<=8:=rG ho.held;have ht:cB { a with kept:=cI a x now } x=cB a x:=rfl;cases hf:eC L x with
  | some p=>
   obtain⟨hp,hn⟩:=ik hf;have hW:HW S2 h { a with kept:=cI a x now } L x p.1 p.2:=⟨h2,h2.ws p hp,hn,h2.lo p hp,Or.inl hp⟩;have hk2:=ho.wk p.1 (List.mem_map.mpr ⟨p,hp,rfl⟩);refine jN (zP (n:=n) (now:=now) hW gv hx hk hk2.aS hk2.wl hk2.al D2) (λ_ _ h=>h.elim) (λv S' ht=>?_);rw[show cB { a with kept:=cI a x now } x=cB a x from rfl] at ht;obtain⟨t1,t2⟩:=wL hW f2 (Or.inl hp) hA ht;show ∃L',_;dsimp only[Option.map_some,Option.getD_some];split
   .rename_i hz;exact⟨L,rfl,t1 hz⟩
   .rename_i hz;exact⟨_,v7 (by exact hn),t2 hz⟩
  | none=>
   have hN:=yu hf;have hW:HW S2 h { a with kept:=cI a x now } L x ⟨x,now,[],[],[]⟩ S1.length:=⟨h2,w2,rfl,l1,Or.inr ⟨hN,g2⟩⟩;refine jN (zP (n:=n) (now:=now) hW gv hx hk (by simp) (by simp) (by simp) D2) (λ_ _ h=>h.elim) (λv S' ht=>?_);rw[show cB { a with kept:=cI a x now } x=cB a x from rfl] at ht;obtain⟨t1,t2⟩:=wL hW f2 (Or.inr ⟨hN,l2⟩) hA ht;show ∃L',_;dsimp only[Option.map_none,Option.getD_none];split
   .rename_i hz;exact⟨L,rfl,t1 hz⟩
   .rename_i hz;exact⟨_,v7 rfl,t2 hz⟩
abbrev dC (k:Nat):D:=.tup [.str "own",.int k]
def nX (a:HA)(ws:List WA)(x:D)(now:Int):HA×List WA×List D:=fZ { a with ends:=a.ends++[.tup []] } ws (dC a.ends.length) x now
theorem aT.more {a:HA}{ws:List WA}{B:Nat}(ho:aT a ws B)(hB:B+1<=100000):aT { a with ends:=a.ends++[.tup []] } ws (B+1):=by have yb:=ho.el;obtain⟨h1,h2,h3,h4,h5,h6,h7,h8,h9,wn,wk,el,pn,pl,ll,bl⟩:=ho.mono (Nat.le_succ B) hB;refine⟨h1,h2,h3,h4,h5,h6,h7,h8,h9,wn,λp hp=>?_,by simp;omega,pn,pl,ll,bl⟩;obtain⟨k1,k2,k3,k4,k5,k6⟩:=wk p hp;exact⟨k1,λz hz=>(k2 z hz).mono (by simp),k3,k4,k5,k6⟩
theorem B2 {n h:Nat}{a:HA}{L:WL}{B:Nat}{x:D}{now:Int}{S:ae}(hh:bt S h a L)(ho:aT a (L.map (·.1)) B)(hB:B+1<=100000)(hA:∀p∈L,p.1.asked≠[])(hx:aM x)(hw:0<=now):
 Wp ((ag P (n+8)).m 3 4 [.ref h,x,.int now] S) λv S'=>∃L' u,v = .tup [.int a.ends.length,u]/\L'.map (·.1)=(nX a (L.map (·.1)) x now).2.1/\Out S h L (nX a (L.map (·.1)) x now).1 L' (nX a (L.map (·.1)) x now).2.2 u S':=by
 have hl:=hh.lt;have o0:=hh.o0;have o9:=hh.o9;have el:=ho.el;rw[yz];apply aK;unfold pS;rfl';refine ak (ip (n+4) x S hx) ?_;rfl';refine ak (dZ (n+4) now S hw) ?_;rfl';refine⟨_,o9,by unfold sizeLine;omega,?_⟩;have h1:=hh.ends (a.ends++[.tup []]);have f1:Fr (In h L) S (S.set (h+9) (.lst (a.ends++[.tup []]))):=cR (Fr.refl _ _) λ_=>vP (by omega) (by omega);generalize S.set (h+9) (.lst (a.ends++[.tup []]))=S1 at h1 f1;have q0:=h1.o0;rfl';refine wp_mono (pU (n:=n) h1 (ho.more hB) hA hx (Or.inr ⟨a.ends.length,rfl,by simp⟩) hw) λv S' ⟨L',e,o⟩=>?_;rfl';exact⟨L',v,rfl,e,o.pre f1 λq hq=>Or.inl ⟨q,hq,rfl⟩⟩
theorem zC {a:HA}{ws:List WA}{B:Nat}{x:D}{now:Int}(ho:aT a ws B)(hB:B+2<=100000)(hx:aM x):aT (nX a ws x now).1 (nX a ws x now).2.1 (B+2):=zM (ho.more (by omega)) (by omega) hx (Or.inr ⟨a.ends.length,rfl,by simp⟩)
theorem vZ (n:Nat)(x:D)(v u:Int)(S:ae)(h:aM x)(v1:0<=v)(v2:v<=999)(u1:0<=u):(ag P (n+4)).f 15 [de x v u] S = .ok (.bl true) S:=by rw[pH];apply bE;apply aK;unfold k7;rfl';refine jr (by simp) ?_;rfl';refine ak (jA _ _ _ h) ?_;rfl';refine sS ?_;rfl';refine d9 rfl ?_;rfl';refine d9 rfl ?_;rfl';refine ak (yM _ _ _ v1 v2) ?_;rfl';refine ak (su _ _ _ u1) ?_;exact⟨rfl,rfl⟩
theorem yq {n h:Nat}{a:HA}{L:WL}{B:Nat}{x:D}{s now:Int}{S:ae}(hh:bt S h a L)(ho:aT a (L.map (·.1)) B)(hA:∀p∈L,p.1.asked≠[])(hx:aM x)(hw:0<=now)(hs:s∈a.near):
 Wp ((ag P (n+8)).m 3 8 [.ref h,.int s,Eo x,.int now] S) λv S'=>∃L',L'.map (·.1)=(fZ a (L.map (·.1)) (.int s) x now).2.1/\Out S h L (fZ a (L.map (·.1)) (.int s) x now).1 L' (fZ a (L.map (·.1)) (.int s) x now).2.2 v S':=by
 have hl:=hh.lt;have o0:=hh.o0;have o3:=hh.o3;have o7:=hh.o7;rw[jY];apply aK;unfold iA;rfl';refine ak (gC _ _ _) ?_;rfl';refine jI o3 rfl gO ?_;rfl';refine d9 (fD.mpr hs) ?_;rfl';refine ak (rW _ x _ S hx (Or.inl rfl)) ?_;rfl';refine ak (dZ _ now S hw) ?_;rfl';refine sS ?_;rfl';refine d9 rfl ?_;rfl';exact pU (n:=n) hh ho hA hx (Or.inl ⟨s,rfl⟩) hw
def fN (a:HA)(ws:List WA)(s:Int)(x:D):HA×List WA×List D:=match ws.find? λy=>decide (y.nm=x) with
 | none=>(a,ws,[])
 | some y=>if s∈y.asked then (if y.asked.erase s=[] then ({ a with ends:=bx a.ends y.aS (.tup [.aj]) },ws.filter λz=>decide (z.nm≠x),lettersOf y.aS (gY x)) else (a,ws.map λz=>if z.nm=x then lB y s else z,[])) else (a,ws,[])
theorem mj {L:WL}{x:D}:((L.map (·.1)).find? λy=>decide (y.nm=x))=(eC L x).map (·.1):=by unfold eC;rw[List.find?_map];rfl
theorem xn {L:WL}{x:D}:(eF L x).map (·.1)=(L.map (·.1)).filter λz=>decide (z.nm≠x):=by unfold eF;rw[List.filter_map];rfl
theorem zg {S:ae}{h:Nat}{a:HA}{L:WL}(hh:bt S h a L):Out S h L a L [] (.ref S.length) (S++[.lst []]):=⟨_,rfl,Nat.le_refl _,aG _ _,hh.app,aU (Fr.refl _ _),λp hp=>Or.inl ⟨p,hp,rfl⟩,hh.fresh (Nat.le_refl _)⟩
theorem wX {h:Nat}{a:HA}{L:WL}{B:Nat}{x b9:D}{s now:Int}{S:ae}{K:En}{cs:List CS}(hh:bt S h a L)(ho:aT a (L.map (·.1)) B)(hx:aM x)
 (q0:(∀p,eC L x=some p->s∉p.1.asked)->K.rt (.ref S.length) (S++[.lst []])) (q1:∀p,eC L x=some p->s∈p.1.asked->Wf (ah cs [some (.ref h),some (.int s),some b9,some (.int now),some x] S) K):
 Wf (ah ((bA (jf (av (aB .NotIn (aa 4) (aH (aa 0) 40))) (av (aB .NotIn (aa 1) (aH (bQ (aH (aa 0) 40) (aa 4)) 5)))) (ah [(retS (aR []))]) (ah []))::cs) [some (.ref h),some (.int s),some b9,some (.int now),some x] S) K:=by
 have o0:=hh.o0;have o7:=hh.o7;apply aF;apply dH;rfl';refine Hj o7 (j8 ho hx) ?_;rw[mq];cases hf:eC L x with
 | none=>rfl';refine nJ ?_;rfl';exact q0 λp e=>by rw[hf] at e;cases e
 | some p=>
  obtain⟨hp,hn⟩:=ik hf;have w0:=(hh.ws p hp).o0;have w2:=(hh.ws p hp).o2;rfl';refine qJ ?_;rfl';refine sE o7 (j8 ho hx) (by rw[mq,hf];rfl) ?_;rfl';refine jI w2 rfl gO ?_;rfl';refine f7 (λhc=>?_) (λhc=>?_)
  .apply bO;exact q1 p hf (fD.mp hc)
  .rfl';exact q0 λp' e=>by rw[hf] at e;cases e;exact λh=>hc (fD.mpr h)
theorem zV {n h:Nat}{a:HA}{L:WL}{B:Nat}{p:WA×Nat}{s:Int}{S:ae}(hh:bt S h a L)(ho:aT a (L.map (·.1)) B)(hB:B+1<=100000)(hf:eC L p.1.nm=some p)(hs:s∈p.1.asked):
 Wp ((ag P (n+3)).m 3 37 [.ref h,.int s,p.1.nm] S) λv S'=>∃L',L'.map (·.1)=(fN a (L.map (·.1)) s p.1.nm).2.1/\Out S h L (fN a (L.map (·.1)) s p.1.nm).1 L' (fN a (L.map (·.1)) s p.1.nm).2.2 v S':=by
 refine wp_mono (Ay hh ho (ik hf).1 hs hB) λv S' o=>?_;unfold fN;rw[mj,hf];dsimp only[Option.map_some];rw[if_pos hs];split at o
 .rename_i hc;rw[if_pos hc];exact⟨_,xn,o⟩
 .rename_i hc;rw[if_neg hc];exact⟨_,lE,o⟩
theorem tm {a:HA}{L:WL}{s:Int}{x:D}(h:∀p,eC L x=some p->s∉p.1.asked):fN a (L.map (·.1)) s x=(a,L.map (·.1),[]):=by
 unfold fN;rw[mj];cases hf:eC L x with
 | none=>rfl
 | some p=>dsimp only[Option.map_some];rw[if_neg (h p hf)]
theorem rD {n h:Nat}{a:HA}{L:WL}{B:Nat}{x:D}{s now:Int}{S:ae}(hh:bt S h a L)(ho:aT a (L.map (·.1)) B)(hB:B+1<=100000)(hx:aM x)(hw:0<=now)(hs:s∈a.near):
 Wp ((ag P (n+7)).m 3 8 [.ref h,.int s,gY x,.int now] S) λv S'=>∃L',L'.map (·.1)=(fN a (L.map (·.1)) s x).2.1/\Out S h L (fN a (L.map (·.1)) s x).1 L' (fN a (L.map (·.1)) s x).2.2 v S':=by
 have hl:=hh.lt;have o0:=hh.o0;have o3:=hh.o3;have o7:=hh.o7;rw[jY];apply aK;unfold iA;rfl';refine ak (gC _ _ _) ?_;rfl';refine jI o3 rfl gO ?_;rfl';refine d9 (fD.mpr hs) ?_;rfl';refine ak (rW _ x _ S hx (Or.inr rfl)) ?_;rfl';refine ak (dZ _ now S hw) ?_;rfl';refine sS ?_;apply tb;refine jr (by decide +kernel) ?_;apply bO;refine wX hh ho hx (λhn=>?_) (λp hf hc=>?_)
 .refine⟨L,?_,?_⟩
  .rw[tm hn]
  .rw[tm hn];exact zg hh
 .rfl';refine sS ?_;rfl';refine d9 rfl ?_;rfl';obtain⟨_,rfl⟩:=ik hf;exact zV (n:=n+3) hh ho hB hf hc
def dO (a:HA)(ws:List WA)(s:Int)(x:D)(v u now:Int):HA×List WA×List D:=if u<now then fN a ws s x else match ws.find? λy=>decide (y.nm=x) with
 | none=>(a,ws,[])
 | some y=>if s∈y.asked then (sv a x s v u now y.aS,ws.filter λz=>decide (z.nm≠x),lettersOf (y.aS.filter λz=>decide (z ≠ .int s)) (de x v u)) else (a,ws,[])
theorem mF {n h:Nat}{a:HA}{L:WL}{B:Nat}{x:D}{s v u now:Int}{S:ae}(hh:bt S h a L)(ho:aT a (L.map (·.1)) B)(hB:B+1<=100000)(hx:aM x)(hw:0<=now)(hs:s∈a.near)(v1:0<=v)(v2:v<=999)(u1:0<=u):
 Wp ((ag P (n+7)).m 3 8 [.ref h,.int s,de x v u,.int now] S) λr S'=>∃L',L'.map (·.1)=(dO a (L.map (·.1)) s x v u now).2.1/\Out S h L (dO a (L.map (·.1)) s x v u now).1 L' (dO a (L.map (·.1)) s x v u now).2.2 r S':=by
 have hl:=hh.lt;have o0:=hh.o0;have o3:=hh.o3;have o7:=hh.o7;rw[jY];apply aK;unfold iA;rfl';refine ak (gC _ _ _) ?_;rfl';refine jI o3 rfl gO ?_;rfl';refine d9 (fD.mpr hs) ?_;rfl';refine ak (vZ _ x v u S hx v1 v2 u1) ?_;rfl';refine ak (dZ _ now S hw) ?_;rfl';refine sS ?_;apply tb;refine jr (by decide +kernel) ?_;apply bO;refine wX hh ho hx (λhn=>?_) (λp hf hc=>?_)
 .have e:dO a (L.map (·.1)) s x v u now=(a,L.map (·.1),[]):=by
   unfold dO;rw[tm hn,mj];split
   .rfl
   .cases hf:eC L x with
    | none=>rfl
    | some p=>dsimp only[Option.map_some];rw[if_neg (hn p hf)]
  refine⟨L,?_,?_⟩
  .rw[e]
  .rw[e];exact zg hh
 .rfl';refine sS ?_;rfl';refine jr (by decide +kernel) ?_;rfl';obtain⟨hp,rfl⟩:=ik hf;refine f7 (λhu=>?_) (λhu=>?_)
  .rfl';unfold dO;rw[if_pos hu];exact zV (n:=n+3) hh ho hB hf hc
  .rfl';refine wp_mono (vj (n:=n) hh ho hp v1 v2 u1 hw) λr S' o=>?_;show ∃L',_;unfold dO;rw[if_neg hu,mj,hf];dsimp only[Option.map_some];rw[if_pos hc];exact⟨_,xn,o⟩
theorem CT {n h k:Nat}{a:HA}{L:WL}{B:Nat}{e:D}{S:ae}(hh:bt S h a L)(he:a.ends[k]?=some e):
 (ag P (n+3)).m 3 10 [.ref h,.int k] S = .ok e S:=by
 have o0:=hh.o0;have o9:=hh.o9;have hk:k<a.ends.length:=(List.getElem?_eq_some_iff.mp he).1;rw[yn];apply bE;apply aK;unfold pJ;rfl';refine ak (ig _ _ _ _ _ (by omega) (by omega)) ?_;rfl';refine sC o9 (v:=e) ?_ ?_
 .unfold j9 sj;rw[if_pos (by omega),if_pos (by omega)];simpa using he
 exact⟨rfl,rfl⟩
theorem wR {n h:Nat}{a:HA}{L:WL}{B:Nat}{S:ae}(hh:bt S h a L)(ho:aT a (L.map (·.1)) B):
 (ag P (n+2)).m 3 20 [.ref h] S = .ok (.ref S.length) (S++[.lst (a.kept.map line)]):=by
 have o0:=hh.o0;have o1:=hh.o1;have o2:=hh.o2;rw[vn];apply bE;apply aK;unfold mL;rfl';exact HX (n:=n) ⟨o1,o2⟩ ho.kept (by have:=ho.kl;have:=ho.r9;omega)
theorem K6 {ρ:RF.Env}{S:ae}{K:En}{is:List Nat}{one:Bool}{b:CS}{n:Nat}{af:List (D×D)}(h:S[n]?=some (.aN af))(hk:∀p∈af,aY p.1=true)
 (w:Wf (ee (λ_=>true) is one b (af.map (·.1)) ρ (S.set n (.c7 af))) { nx:=λρ' S'=>S'[n]?=some (.c7 af)/\K.nx ρ' (S'.set n (.aN af)),rt:=λ_ _=>False }):Wf (nC is one b (.ref n) ρ S) K:=by
 unfold nC;simp only[h];rw[if_pos (List.all_eq_true.mpr hk)];show Wf (sf n (ee (λ_=>true) is one b (af.map (·.1)) ρ (S.set n (.c7 af)))) K;cases ev:ee (λ_=>true) is one b (af.map (·.1)) ρ (S.set n (.c7 af)) with
 | nx ρ' S'=>rw[ev] at w;obtain⟨w1,w2⟩:=w;unfold sf;simp only[w1];exact w2
 | rt d S'=>rw[ev] at w;exact w.elim
 | bk ρ' S'=>rw[ev] at w;exact w.elim
 | ct ρ' S'=>rw[ev] at w;exact w.elim
 | bad=>rw[ev] at w;exact w.elim
theorem uQ {n h:Nat}{a:HA}{L:WL}{B:Nat}{S:ae}(hh:bt S h a L)(ho:aT a (L.map (·.1)) B):
 Wp ((ag P (n+1)).m 3 41 [.ref h] S) λv S'=>∃xs,v = .ref S.length/\S'[S.length]?=some (.lst xs)/\xs.length=L.length/\Fr no S S':=by
 have hl:=hh.lt;have o0:=hh.o0;have o7:=hh.o7;have hb:=ho.bl;have hll:=ho.ll;rw[List.length_map] at hll;have hk:∀p∈L.map eB,aY p.1=true:=λp hp=>by obtain⟨q,hq,rfl⟩:=List.mem_map.mp hp;exact cZ (ho.wk q.1 (List.mem_map.mpr ⟨q,hq,rfl⟩)).nm
 rw[vk];apply aK;unfold mQ;rfl';refine K6 (aO o7) hk ?_;refine lI (Inv:=λi ρ S'=>(∃r2 r3,ρ=[some (.ref h),some (.ref S.length),r2,r3])/\S'[h+7]?=some (.c7 (L.map eB))/\Fr (· = h+7) S S'/\∃xs,S'[S.length]?=some (.lst xs)/\xs.length=i) ⟨⟨_,_,rfl⟩,dA (aO o7),cR (aU (Fr.refl _ _)) λ_=>rfl,[],ky (aG _ _) (by omega),rfl⟩ (λ_ _ _ _ _=>rfl) (λi y ρ X hi hI=>?_) (λρ S' hI=>?_)
 .obtain⟨⟨r2,r3,rfl⟩,g7,hf,xs,gx,hx⟩:=hI;rw[List.map_map,List.getElem?_map] at hi;cases hp:L[i]? with
  | none=>rw[hp] at hi;cases hi
  | some p=>
   rw[hp] at hi;have hy:p.1.nm=y:=by simpa[eB] using hi
   subst hy;have hpm:p∈L:=List.mem_of_getElem? hp;have hil:i<L.length:=(List.getElem?_eq_some_iff.mp hp).1;have jn:=hh.lo p hpm;obtain⟨w0,w1,w2,w3⟩:=(hh.ws p hpm).fr hf λi h1 h2=>by omega
   have g0:=hf.at o0 (by omega);have hlen:=hf.1;have D3:=aZ gx;refine⟨_,rfl,?_⟩;show Wf (ah _ [some (.ref h),some (.ref S.length),some p.1.nm,r3] X) _;rfl';refine AJ g7 (hk _ (List.mem_map.mpr ⟨p,hpm,rfl⟩)) (by rw[mq,jg ho.wn hpm];rfl) ?_;rfl';refine⟨xs,by ac_rfl,by unfold sizeLine;omega,?_⟩;rfl';refine⟨⟨_,_,rfl⟩,by ac_rfl,cR (aU (aU (aU hf))) λh=>by omega,_,dA (by ac_rfl),by simp[hx]⟩
 .obtain⟨⟨r2,r3,rfl⟩,g7,hf,xs,gx,hx⟩:=hI;rw[List.length_map,List.length_map] at hx;refine⟨g7,?_⟩;rfl';refine⟨xs,rfl,ky gx (by omega),hx,by simp;exact hf.1,λi hi hn=>?_⟩
  by_cases e:i=h+7
  .rw[e,dA g7,o7]
  .rw[List.getElem?_set_ne (Ne.symm e)];exact hf.2 i hi e
theorem we {a:HA}{ws:List WA}{B:Nat}{s:Int}{x:D}(ho:aT a ws B)(hB:B+1<=100000):aT (fN a ws s x).1 (fN a ws s x).2.1 (B+1):=by
 have gv:=ho.mono (Nat.le_succ B) hB;unfold fN;cases hf:ws.find? λy=>decide (y.nm=x) with
 | none=>exact gv
 | some y=>
  dsimp only;have hy:=List.mem_of_find?_eq_some hf;have hn:y.nm=x:=by simpa using List.find?_some hf
  split
  .split
   .have hs:(ws.filter λz=>decide (z.nm≠x)).Sublist ws:=List.filter_sublist;refine(gv.ends _ (fi _ _ _)).ws ((hs.map _).nodup ho.wn) (λz hz=>?_) (Nat.le_trans hs.length_le gv.ll);show pO (bx a.ends y.aS (.tup [.aj])).length (B+1) z;rw[fi];exact gv.wk z (hs.subset hz)
   .refine gv.ws ?_ (λz hz=>?_) (by simpa using gv.ll)
    .rw[List.map_map];have:ws.map ((λp:WA=>p.nm) ∘ λz=>if z.nm=x then lB y s else z)=ws.map λp=>p.nm:=by
      apply List.map_congr_left;intro z _;show (if z.nm=x then lB y s else z).nm=z.nm;split
      .rename_i h;show y.nm=z.nm;rw[hn,h]
      .rfl
     rw[this];exact ho.wn
    .obtain⟨q,hq,e⟩:=List.mem_map.mp hz;split at e
     .rw[<-e];obtain⟨k1,k2,k3,k4,k5,k6⟩:=ho.wk y hy;exact⟨k1,k2,by show y.aS.length<=B+1;omega,by show (y.asked.erase s).length<=_;have:=List.length_erase_le (a:=s) (l:=y.asked);omega,by simp;omega,k6⟩
     .rw[<-e];exact gv.wk q hq
  .exact gv
theorem Jx {room:Int}{rows:List Row}{x:D}{v u now:Int}(h0:0<=room)(hl:(rows.length:Int)<=room):((iI room rows x v u now).length:Int)<=room:=by
 have hdl:((bG rows x).length:Int)<=room:=by have:=(gP rows x).length_le;omega
 unfold iI
 by_cases hu:u > now
 .simp only[if_pos hu];split
  .simp;omega
  .omega
 .simp only[if_neg hu];split
  .simp;omega
  .omega
theorem J3 {room:Int}{rows:List Row}{x:D}{v u now:Int}(hr:cY rows)(hx:aM x):cY (iI room rows x v u now):=by
 have hd:cY (bG rows x):=nE hr (gP _ _);have ha:cY (if u > now then bG rows x++[(x,v,u)] else bG rows x):=by
  split
  .exact xE hd (lM rows x) hx
  .exact hd
 unfold iI;generalize (if u > now then bG rows x++[(x,v,u)] else bG rows x)=w at ha ⊢;split
 .exact nE ha (List.drop_sublist _ _)
 .exact ha
theorem JZ {l:List (D×Int×Int×Int)}{x:D}{now v u:Int}(h:∀r∈l,aM r.1)(hx:aM x):(∀r∈kU l x now v u,aM r.1)/\(kU l x now v u).length<=l.length+1:=by
 unfold kU;split
 .refine⟨λr hr=>?_,by simp⟩;obtain⟨q,hq,e⟩:=List.mem_map.mp hr;split at e
  .rw[<-e];exact h q hq
  .rw[<-e];exact h q hq
 .refine⟨λr hr=>?_,by simp⟩;rcases List.mem_append.mp hr with hr | hr
  .exact h r hr
  .rw[List.mem_singleton.mp hr];exact hx
theorem AN {a:HA}{ws:List WA}{B:Nat}{s v u now:Int}{x:D}(ho:aT a ws B)(hB:B+1<=100000)(hx:aM x):aT (dO a ws s x v u now).1 (dO a ws s x v u now).2.1 (B+1):=by
 have gv:=ho.mono (Nat.le_succ B) hB;unfold dO;split
 .exact we ho hB
 cases hf:ws.find? λy=>decide (y.nm=x) with
 | none=>exact gv
 | some y=>
  dsimp only;split
  .have hs:(ws.filter λz=>decide (z.nm≠x)).Sublist ws:=List.filter_sublist;obtain⟨h1,h2,h3,h4,h5,h6,h7,h8,h9,wn,wk,el,pn,pl,ll,bl⟩:=gv;have hp:=JZ (now:=now) (v:=v) (u:=u) pn hx;refine⟨h1,h2,h3,J3 h4 hx,Jx h2 h5,h6,h7,h8,h9,(hs.map _).nodup wn,λz hz=>?_,?_,hp.1,Nat.le_trans hp.2 (by have:=ho.pl;omega),Nat.le_trans hs.length_le ll,bl⟩
   .show pO (bx a.ends _ _).length (B+1) z;rw[fi];exact wk z (hs.subset hz)
   .show (bx a.ends _ _).length<=_;rw[fi];exact el
  .exact gv
theorem dR (n d:Nat)(m:Int)(S:ae)(hd:cC d S)(h1:0<m)(h2:m<2 ^ 250):Wp ((ag P (n+2)).f 18 [.ref d,.int m] S) λv S'=>(∃z,v = .int z/\0<=z/\z<m)/\cC d S'/\Fr (· = d) S S':=by refine wp_mono (IG n d m S hd h1 h2) λv S' ⟨hz,a,b,e⟩=>?_;subst e;obtain⟨x,y,hd⟩:=hd;exact⟨hz,⟨a,b,dA hd⟩,Fr.set _ _ _ _ rfl⟩
theorem Jf (n d:Nat)(S:ae)(hd:cC d S):Wp ((ag P (n+3)).f 20 [.ref d] S) λv S'=>(∃ps:List D,v = .tup ps/\ps.length<=4/\∀p∈ps,p∈parts)/\cC d S'/\Fr (· = d) S S':=by
 rw[Bg];apply aK;unfold rB;rfl';have hp:(S++[O.lst parts])[S.length]?=some (.lst parts):=aG _ _;have eJ:S.length≠d:=λe=>by have:=hd.lt;omega
 have x6:Fr (· = d) S (S++[O.lst parts]):=Fr.app _ _ _;refine wp_mono (dR n d 5 _ (hd.fr (Fr.app no S [O.lst parts]) λh=>h) (by decide) (by decide)) λv S1 ⟨⟨j,ej,j1,j2⟩,jo,iE⟩=>?_;subst ej;refine⟨_,rfl,?_,?_⟩
 .simp only[eX,Bool.and_eq_true,decide_eq_true_eq,sizeLine];refine⟨⟨?_,?_⟩,?_⟩
  .omega
  .omega
  .exact decide_eq_true (by omega)
 refine yV (Inv:=λi ys S'=>i<=4/\S'[S.length]?=some (.lst parts)/\cC d S'/\Fr (· = d) S S'/\ys.length=i/\∀p∈ys,p∈parts) ⟨by omega,iE.at hp eJ,jo,x6.trans iE λ_ _ h=>h,rfl,λx hx=>by simp at hx⟩ (λ_ _ _ _ _=>rfl) (λi x ys S2 hx hI=>?_) (λys S2 hI=>?_)
 .obtain⟨h0,h1,h2,h3,h4,h5⟩:=hI;have hi:=(List.getElem?_eq_some_iff.mp hx).1;rw[gZ] at hi;rw[uB hx];refine⟨_,rfl,?_⟩;apply kD;rw[if_pos rfl];refine cx (decide_eq_true (show ys.length<sizeLine by unfold sizeLine;omega)) (wp_bind ?_);rfl';refine wp_mono (dR n d 5 _ h2 (by decide) (by decide)) λv S3 ⟨⟨p,ep,p1,p2⟩,jz,iF⟩=>?_;subst ep;rfl';refine wp_mono (dR n d 2 _ jz (by decide) (by decide)) λv S4 ⟨⟨q,eq,q1,q2⟩,va,lW⟩=>?_;subst eq;refine jk (mul_r (by omega)) ?_;have hpq:0<=p*q/\p*q<5:=by
   have:q=0\/q=1:=by omega
   rcases this with rfl|rfl<;>omega
  obtain⟨y,e,hm⟩:=ly (xs:=parts) hpq.1 hpq.2;refine dq (bz (lW.at (iF.at h1 eJ) eJ)) e ?_;refine⟨by omega,lW.at (iF.at h1 eJ) eJ,va,(h3.trans iF λ_ _ h=>h).trans lW λ_ _ h=>h,by simp[h4],λz hz=>?_⟩;rcases List.mem_append.mp hz with hz | hz
  .exact h5 z hz
  .rw[List.mem_singleton.mp hz];exact hm
 .obtain⟨_,h1,h2,h3,h4,h5⟩:=hI;rw[gZ] at h4;exact⟨⟨ys,rfl,by omega,h5⟩,h2,h3⟩
theorem yv (n d:Nat)(S:ae)(hd:cC d S):Wp ((ag P (n+4)).f 21 [.ref d] S) λv S'=>aM v/\cC d S'/\Fr (· = d) S S':=by
 rw[sO];apply aK;unfold lG;rfl';refine wp_mono (dR (n+1) d 3 _ hd (by decide) (by decide)) λv S1 ⟨⟨j,ej,j1,j2⟩,jo,iE⟩=>?_;subst ej;rfl';refine f7 (λ_=>?_) (λ_=>?_)
 .rfl';exact⟨⟨_,rfl,by decide,by decide,by decide +kernel⟩,jo,iE⟩
 .rfl';refine wp_mono (Jf n d _ jo) λv S2 ⟨⟨ps,ep,l1,m1⟩,hd2,jy⟩=>?_;subst ep;rfl';refine wp_mono (dR (n+1) d 2 _ (hd2.fr (Fr.app no S2 _) λh=>h) (by decide) (by decide)) λv S3 ⟨⟨q,eq,q1,q2⟩,jz,iF⟩=>?_;subst eq;obtain⟨y,e,hm⟩:=ly (xs:=[D.str "a",D.str "b"]) q1 q2;have eJ:S2.length≠d:=λe=>by have:=hd2.lt;omega
  refine dq (bz (iF.at (aG _ _) eJ)) e ?_;rfl';refine ak (a:=.tup (ps++[y])) (S:=S3) ?_ ?_
  .show aE (big (ps.length+1)) _=_;have:big (ps.length+1)=true:=by simp[big,sizeLine];omega
   rw[this];rfl
  refine⟨⟨_,rfl,by simp,by simp;omega,λp hp=>?_⟩,jz,((iE.trans jy λ_ _ h=>h).trans (Fr.app no _ _) λ_ _ h=>h.elim).trans iF λ_ _ h=>h⟩;rcases List.mem_append.mp hp with hp | hp
  .exact m1 p hp
  .rw[List.mem_singleton.mp hp];have:y=D.str "a"\/y=D.str "b":=by simpa using hm
   rcases this with rfl|rfl
   .exact List.mem_map.mpr ⟨"a",by decide +kernel,rfl⟩
   .exact List.mem_map.mpr ⟨"b",by decide +kernel,rfl⟩
theorem MW {l:List Int}{x:Int}(j:Nat)(hn:l.Nodup)(hx:x∉l):(l.take j++x::l.drop j).Nodup/\(∀y,y∈l.take j++x::l.drop j->y=x\/y∈l)/\(l.take j++x::l.drop j).length=l.length+1:=by
 have hp:(l.take j++x::l.drop j).Perm (x::l):=by have:=List.perm_middle (a:=x) (l₁:=l.take j) (l₂:=l.drop j);rw[List.take_append_drop] at this;exact this
 refine⟨hp.nodup_iff.mpr (List.nodup_cons.mpr ⟨hx,hn⟩),λy hy=>?_,by rw[hp.length_eq];simp⟩;have:=hp.subset hy;simpa using this
theorem yx (n d s:Nat)(near:List Int)(S:ae)(hd:cC d S)(hs:S[s]?=some (.lst (near.map .int)))(hn:near.Nodup)(hl:near.length<=8)(xZ:s≠d):
 Wp ((ag P (n+3)).f 22 [.ref d,.ref s] S) λv S'=>∃l:List Int,v = .ref S.length/\S'[S.length]?=some (.lst (l.map .int))/\l.Nodup/\(∀i∈l,i∈near)/\l.length<=near.length/\cC d S'/\Fr (· = d) S S':=by
 have hdl:=hd.lt;have hsl:=aZ hs;rw[qH];apply aK;unfold j7;rfl';refine wq (aO hs) ?_;refine lI (Inv:=λi ρ S'=>(∃r3,ρ=[some (.ref d),some (.ref s),some (.ref S.length),r3])/\cC d S'/\Fr (· = d) S S'/\∃l:List Int,S'[S.length]?=some (.lst (l.map .int))/\l.Nodup/\(∀x∈l,x∈near.take i)/\l.length<=i) ⟨⟨_,rfl⟩,hd.fr (Fr.app no S _) (λh=>h),Fr.app _ _ _,[],aG _ _,by simp,by simp,Nat.le_refl _⟩ (λi ρ S' _ hI=>?_) (λi y ρ S1 hi hI=>?_) (λρ S1 hI=>?_)
 .exact decide_eq_true (bz (hI.2.2.1.at hs xZ))
 .obtain⟨⟨r3,rfl⟩,jo,iE,l,gl,ln,lm,ll⟩:=hI;rw[List.getElem?_map] at hi;cases hx:near[i]? with
  | none=>rw[hx] at hi;cases hi
  | some x=>
   rw[hx] at hi;have hy:D.int x=y:=by simpa using hi
   subst hy;have hil:=(List.getElem?_eq_some_iff.mp hx).1;have eR:=iE.1;refine⟨_,rfl,?_⟩;show Wf (ah _ [some (.ref d),some (.ref s),some (.ref S.length),some (.int x)] S1) _;rfl';refine wp_mono (dR n d 2 _ jo (by decide) (by decide)) λv S2 ⟨⟨q,eq,q1,q2⟩,hd2,jy⟩=>?_;subst eq;have g2:=jy.at gl (by omega);have f2:=iE.trans jy λ_ _ h=>h;have ts:near.take (i+1)=near.take i++[x]:=take_succ hx;rfl';refine f7 (λ_=>?_) (λ_=>?_)
   .rfl';rw[List.length_map];refine wp_mono (dR n d ((l.length:Int)+1) _ hd2 (by omega) (by omega)) λv S3 ⟨⟨j,ej,j1,j2⟩,jz,iF⟩=>?_;subst ej;have g3:=iF.at g2 (by omega);rfl';refine⟨j,rfl,g3,j1,by omega,by omega,?_⟩;have D3:x∉l:=λhm=>by have hm:=lm x hm;have yd:(near.take (i+1)).Nodup:=(List.take_sublist _ _).nodup hn;rw[ts,List.nodup_append] at yd;exact yd.2.2 x hm x (by simp) rfl
    obtain⟨i1,i2,i3⟩:=MW j.toNat ln D3;have va:=jz.fr (Fr.set (· = S.length) S3 S.length (.lst ((l.map D.int).take j.toNat++D.int x::(l.map D.int).drop j.toNat)) rfl) (by omega);rfl';refine⟨⟨_,rfl⟩,va,cR (f2.trans iF λ_ _ h=>h) (λh=>by omega),l.take j.toNat++x::l.drop j.toNat,?_,i1,λy hy=>?_,by rw[i3];omega⟩
    .rw[dA g3];simp
    .rw[ts];rcases i2 y hy with rfl | hy
     .simp
     .exact List.mem_append.mpr (Or.inl (lm y hy))
   .rfl';refine⟨⟨_,rfl⟩,hd2,f2,l,g2,ln,λy hy=>?_,by omega⟩;rw[ts];exact List.mem_append.mpr (Or.inl (lm y hy))
 .obtain⟨⟨r3,rfl⟩,jo,iE,l,gl,ln,lm,ll⟩:=hI;rw[List.length_map] at ll lm;rfl';rw[List.take_length] at lm;exact⟨l,rfl,gl,ln,lm,ll,jo,iE⟩
theorem qt {chk:ae->Bool}{is:List Nat}{one:Bool}{t:C Bool}{e:C D}{ρ:RF.Env}{S:ae}{f:D->Bool}{g:D->D}(hc:chk S=true):∀(xs acc:List D),(∀x∈xs,∃ρ1,pZ is one x ρ=some ρ1/\t ρ1 S = .ok (f x) S/\(f x=true->e ρ1 S = .ok (g x) S))->acc.length+xs.length<sizeLine ->
 bB chk is one t (bL e) ρ xs acc S = .ok (acc++(xs.filter f).map g) S
 | [],acc,_,_=>by unfold bB;rw[if_pos hc];simp
 | x::xs,acc,hx,hl=>by
  obtain⟨ρ1,h0,h1,h2⟩:=hx x (List.mem_cons_self ..);rw[List.length_cons] at hl;unfold bB;rw[if_pos hc,h0];dsimp only;rw[h1,R.bJ]
  by_cases q:f x=true
  .rw[if_pos q];have:bL e acc ρ1 S = .ok (acc++[g x]) S:=by unfold bL aE;rw[if_pos (decide_eq_true (by omega)),h2 q,R.bJ]
   rw[this,R.bJ,qt hc xs _ (λy hy=>hx y (List.mem_cons_of_mem _ hy)) (by rw[List.length_append,List.length_singleton];omega),List.filter_cons,if_pos q];simp
  .rw[if_neg q,qt hc xs _ (λy hy=>hx y (List.mem_cons_of_mem _ hy)) (by omega),List.filter_cons,if_neg q]
theorem qG {ρ:RF.Env}{S:ae}{r:Nat}{t:C Bool}{e:C D}{c:C D}{Q:D->ae->Prop}{ls:List D}(f:D->Bool)(g:D->D)(hr:S[r]?=some (.lst ls))(hl:ls.length<1000)(hv:c ρ S = .ok (.ref r) S)(hx:∀z∈ls,∃a b,z = .tup [a,b]/\t (some a::some b::ρ) S = .ok (f z) S/\(f z=true->e (some a::some b::ρ) S = .ok (g z) S))(q:Q (.ref S.length) (S++[.lst ((ls.filter f).map g)])):Wp (cK 2 (.dyn c) [0,1] false t e ρ S) Q:=by
 refine wp_bind (cx (by simp[blank,inner]) (wp_bind (ak hv ?_)));unfold iu;simp only[hr];refine(ak (qt (f:=f) (g:=g) (decide_eq_true (bz hr)) ls [] (λz hz=>?_) (by simp[sizeLine];omega)) ?_)
 .obtain⟨a,b,e1,h1,h2⟩:=hx z hz;subst e1;exact⟨_,rfl,h1,h2⟩
 .rw[List.nil_append];exact q
abbrev A0 (l:List Int)(size:Int)(E:List D):HA:=⟨0,[1,2,3,4],size,9,[],[(.tup [],l++[5])],[],[],E⟩
theorem B6 {s:List Int}{x:D}:c8 [(.tup [],s)] x=s:=by
 have h0:eG [(.tup [],s)] (.tup ((partsOf x).take 0))=some s:=by simp[eG]
 have hs:∀m,m<=(partsOf x).length->(dX [(.tup [],s)] (partsOf x) m).map (·.2)=some s:=by
  intro m
  induction m with
  | zero=>intro _;simp only[dX,h0,Option.map_some]
  | succ m ih=>
   intro hm;have:eG [(.tup [],s)] (.tup ((partsOf x).take (m+1)))=none:=by
    have eJ:¬(D.tup [] = .tup ((partsOf x).take (m+1))):=λe=>by have e:[]=(partsOf x).take (m+1):=D.tup.inj e;have:=congrArg List.length e;rw[List.length_take,List.length_nil] at this;omega
    simp[eG,eJ]
   simp only[dX,this];exact ih (by omega)
 unfold c8;rw[hs _ (Nat.le_refl _)];rfl
theorem E1 {l:List Int}{size:Int}{E:List D}{x:D}(hl:∀i∈l,i∈[1,2,3,(4:Int)]):cB (A0 l size E) x=l:=by unfold cB;rw[B6,List.filter_append];have h1:l.filter (λi=>decide (i∈[1,2,3,(4:Int)]))=l:=List.filter_eq_self.mpr λi hi=>decide_eq_true (hl i hi);rw[h1];simp
theorem Hh {l:List Int}{size:Int}{E:List D}{ws:List WA}{k x:D}(hl:∀i∈l,i∈[1,2,3,(4:Int)]):fZ (A0 l size E) ws k x 0=if (ba l k (waitOf ws x 0)).asked=[] then (A0 l size (bx E [k] (.tup [.aj])),ws,lettersOf [k] (gY x)) else (A0 l size E,hZ ws x (ba l k (waitOf ws x 0)),il x (dS l { waitOf ws x 0 with aS:=aI (waitOf ws x 0).aS k })):=by unfold fZ;rw[E1 hl];rfl
def Inv1 (l:List Int)(x:D)(E:List D)(ws:List WA)(W:List D)(A:List Int):Prop:=
 (A=[]/\ws=[]/\(W=[]\/l=[]))\/(A≠[]/\ws=[⟨x,0,W,A,[]⟩]/\(∀e∈E,e = .tup [])/\(∀k,k<E.length->dC k∈W)/\W.Nodup/\A.Nodup/\∀s∈A,s∈l)
theorem wM {x:D}{W:List D}{A:List Int}:waitOf [⟨x,0,W,A,[]⟩] x 0=⟨x,0,W,A,[]⟩:=by simp[waitOf]
theorem Ee {x:D}{W:List D}{A:List Int}{y:WA}:hZ [⟨x,0,W,A,[]⟩] x y=[y]:=by simp[hZ]
theorem Iu {W:List D}{m:Nat}(h:∀z∈W,dD m z):aI W (dC m)=W++[dC m]:=if_neg λhm=>by
 rcases h _ hm with⟨i,e⟩|⟨k,e,hk⟩
 .cases e
 .have:(m:Int)=k:=by cases e;rfl
  omega
theorem y9 {l:List Int}{x k:D}{E E':List D}{ws:List WA}{W:List D}{A:List Int}(hn:l.Nodup)(h:Inv1 l x E ws W A)(hE:(∀e∈E',e = .tup [])\/l=[])(hk:∀j,j<E'.length->j<E.length\/dC j∈aI W k)(h0:A=[]->E=[]\/l=[])(m8:¬(ba l k (waitOf ws x 0)).asked=[]):
 Inv1 l x E' (hZ ws x (ba l k (waitOf ws x 0))) (aI W k) (A++dS l { waitOf ws x 0 with aS:=aI (waitOf ws x 0).aS k }):=by
 rcases h with⟨rfl,rfl,h3⟩|⟨h1,rfl,h3,h4,h5,h6,h7⟩
 .have hw0:waitOf [] x 0=⟨x,0,[],[],[]⟩:=rfl;rw[hw0] at m8 ⊢;have hl:l≠[]:=λe=>m8 (by rw[e];rfl);have hW0:W=[]:=h3.resolve_right hl;subst hW0;have hE:=hE.resolve_right hl;have hE0:=(h0 rfl).resolve_right hl;subst hE0;refine Or.inr ⟨m8,rfl,hE,λj hj=>(hk j hj).resolve_left (by simp),by simp[aI],?_,?_⟩
  .exact List.filter_sublist.nodup hn
  .intro s hs;rw[List.nil_append] at hs;exact(List.mem_filter.mp hs).1
 .have hl:l≠[]:=λe=>by
   cases A with
   | nil=>exact h1 rfl
   | cons a A=>have:=h7 a (by simp);rw[e] at this;simp at this
  have hE:=hE.resolve_right hl;rw[wM] at m8 ⊢;rw[Ee];refine Or.inr ⟨λe=>h1 (List.append_eq_nil_iff.mp e).1,rfl,hE,λj hj=>?_,?_,?_,?_⟩
  .rcases hk j hj with hj | hj
   .have:=h4 j hj;unfold aI;split
    .exact this
    .exact List.mem_append.mpr (Or.inl this)
   .exact hj
  .unfold aI;split
   .exact h5
   .rename_i h;rw[List.nodup_append];refine⟨h5,by simp,λa ha b hb=>?_⟩;rw[List.mem_singleton.mp hb];exact λe=>h (e ▸ ha)
  .rw[List.nodup_append];refine⟨h6,List.filter_sublist.nodup hn,λa ha b hb e=>?_⟩;have:=(List.mem_filter.mp hb).2;simp only[Bool.and_eq_true,Bool.not_eq_true',decide_eq_false_iff_not] at this;exact this.1 (e ▸ ha)
  .intro s hs;rcases List.mem_append.mp hs with hs | hs
   .exact h7 s hs
   .exact(List.mem_filter.mp hs).1
theorem De {l:List Int}{x k:D}{E:List D}{ws:List WA}{W:List D}{A:List Int}(h:Inv1 l x E ws W A)(m8:(ba l k (waitOf ws x 0)).asked=[]):A=[]/\ws=[]/\(l=[]\/∃s,k = .int s):=by
 rcases h with⟨rfl,rfl,h3⟩|⟨h1,rfl,_⟩
 .refine⟨rfl,rfl,?_⟩
  by_cases hk:∃s,k = .int s
  .exact Or.inr hk
  .left;have m8:([]++dS l ⟨x,0,aI [] k,[],[]⟩:List Int)=[]:=m8;rw[List.nil_append] at m8;have:dS l ⟨x,0,aI [] k,[],[]⟩=l:=by apply List.filter_eq_self.mpr;intro s _;have:¬aI [] k=[D.int s]:=λe=>hk ⟨s,by simpa[aI] using e⟩;simp[this]
   rw[this] at m8;exact m8
 .rw[wM] at m8;exact absurd (List.append_eq_nil_iff.mp m8).1 h1
section
abbrev jX (r0:Option D)(d:Nat)(x:D)(nr:Nat)(size:Int)(h sd rw ra ro:Nat)(dk dm fA dn:Option D):RF.Env:=[r0,some (.ref d),some x,some (.ref nr),some (.int size),some (.ref h),some (.ref sd),some (.ref rw),some (.ref ra),some (.ref ro),dk,dm,fA,dn]
abbrev fq:List Int:=[1,2,3,4]
structure LS (S0 S:ae)(d h nr sd rw ra ro:Nat)(l:List Int)(size:Int)(x:D)(E:List D)(L:WL)(W:List D)(A:List Int)(Wi:List D)(Ai:List Int)(B:Nat):Prop where
 di:cC d S
 kQ:d<10
 fh:10<=h
 ha:bt S h (A0 l size E) L
 ho:aT (A0 l size E) (L.map (·.1)) B
 hA:∀p∈L,p.1.asked≠[]
 gn:S[nr]?=some (.lst (fq.map .int))
 gs:S[sd]?=some (.lst ((l++[5]).map .int))
 gw:S[rw]?=some (.lst W)
 ga:S[ra]?=some (.lst (A.map .int))
 go:S[ro]?=some (.lst ((List.range E.length).map λ(k:Nat)=>.int k))
 i1:10<=nr
 i2:10<=sd
 i3:10<=rw
 i4:10<=ra
 i5:10<=ro
 n1:¬In h L nr
 n2:¬In h L sd
 n3:¬In h L rw
 n4:¬In h L ra
 n5:¬In h L ro
 e1:rw≠nr
 e2:rw≠sd
 e3:rw≠ra
 e4:rw≠ro
 e5:ro≠nr
 e6:ro≠sd
 e7:ro≠ra
 wk:∀z∈W,dD E.length z
 wl:W.length<=B
 al:A.length<=8*B
 fr:Fr (λi=>i=d\/10<=i) S0 S
 inv:Inv1 l x E (L.map (·.1)) Wi Ai
 hE:(∀e∈E,e = .tup [])\/l=[]
 h0:Ai=[]->E=[]\/l=[]
variable {S0 S S':ae}{d h nr sd rw ra ro:Nat}{l:List Int}{size:Int}{x:D}{E:List D}{L:WL}{W:List D}{A:List Int}{Wi:List D}{Ai:List Int}{B:Nat}
theorem qB (h1:d<10)(h2:10<=h)(ha:bt S h (A0 l size E) L):¬In h L d:=by
 rintro (hi | ⟨p,hp,i1,i2⟩)
 .omega
 .have:=ha.lo p hp;omega
theorem LS.tH (s:LS S0 S d h nr sd rw ra ro l size x E L W A Wi Ai B)(hd:cC d S')(hf:Fr (· = d) S S'):LS S0 S' d h nr sd rw ra ro l size x E L W A Wi Ai B:=by have yd:=qB s.kQ s.fh s.ha;obtain⟨di,kQ,fh,ha,ho,hA,gn,gs,gw,ga,go,i1,i2,i3,i4,i5,n1,n2,n3,n4,n5,e1,e2,e3,e4,e5,e6,e7,wk,wl,al,fr,inv,hE,h0⟩:=s;exact⟨hd,kQ,fh,ha.fr hf λi hi e=>yd (e ▸ hi),ho,hA,hf.at gn (by omega),hf.at gs (by omega),hf.at gw (by omega),hf.at ga (by omega),hf.at go (by omega),i1,i2,i3,i4,i5,n1,n2,n3,n4,n5,e1,e2,e3,e4,e5,e6,e7,wk,wl,al,fr.trans hf λi _ h=>Or.inl h,inv,hE,h0⟩
theorem LS.app {T:ae}(s:LS S0 S d h nr sd rw ra ro l size x E L W A Wi Ai B):LS S0 (S++T) d h nr sd rw ra ro l size x E L W A Wi Ai B:=s.tH (s.di.fr (Fr.app no S T) λh=>h) (Fr.app _ S T)
theorem LS.out {a':HA}{L':WL}{ls:List D}{v:D}(s:LS S0 S d h nr sd rw ra ro l size x E L W A Wi Ai B)(o:Out S h L a' L' ls v S'):
 ∃r,v = .ref r/\S.length<=r/\S'[r]?=some (.lst ls)/\¬In h L' r/\cC d S'/\bt S' h a' L'/\Fr (λi=>i=d\/10<=i) S0 S' /\
  (∀i,i<S.length->¬In h L i->¬In h L' i)/\Fr (In h L) S S':=by
 obtain⟨r,e,r1,r2,r3,r4,r5,r6⟩:=o;have yd:=qB s.kQ s.fh s.ha;refine⟨r,e,r1,r2,r6,s.di.fr r4 yd,r3,s.fr.trans r4 λi _ hi=>Or.inr ?_,λi hi hn du=>hn (xP r5 i hi du),r4⟩;rcases hi with hi | ⟨p,hp,i1,i2⟩
 .have:=s.fh;omega
 .have:=s.ha.lo p hp;have:=s.fh;omega
theorem LS.same {E':List D}{L':WL}{ls:List D}{v:D}{Wi':List D}{Ai':List Int}{B':Nat}(s:LS S0 S d h nr sd rw ra ro l size x E L W A Wi Ai B)(o:Out S h L (A0 l size E') L' ls v S')(vb:E'.length=E.length)(ho:aT (A0 l size E') (L'.map (·.1)) B')(hA:∀p∈L',p.1.asked≠[])(hB:B<=B')(inv:Inv1 l x E' (L'.map (·.1)) Wi' Ai')(hE:(∀e∈E',e = .tup [])\/l=[])(h0:Ai'=[]->E'=[]\/l=[]):
 ∃r,v = .ref r/\S.length<=r/\S'[r]?=some (.lst ls)/\¬In h L' r/\LS S0 S' d h nr sd rw ra ro l size x E' L' W A Wi' Ai' B':=by
 obtain⟨r,e,r1,r2,r3,r4,r5,r6,r7,r8⟩:=s.out o;obtain⟨di,kQ,fh,ha,ho',hA',gn,gs,gw,ga,go,i1,i2,i3,i4,i5,n1,n2,n3,n4,n5,e1,e2,e3,e4,e5,e6,e7,wk,wl,al,fr,_,_,_⟩:=s;exact⟨r,e,r1,r2,r3,r4,kQ,fh,r5,ho,hA,r8.at gn n1,r8.at gs n2,r8.at gw n3,r8.at ga n4,by rw[vb];exact r8.at go n5,i1,i2,i3,i4,i5,r7 _ (aZ gn) n1,r7 _ (aZ gs) n2,r7 _ (aZ gw) n3,r7 _ (aZ ga) n4,r7 _ (aZ go) n5,e1,e2,e3,e4,e5,e6,e7,by rw[vb];exact wk,by omega,by omega,r6,inv,hE,h0⟩
theorem LS.own {E':List D}{L':WL}{ls:List D}{v:D}{Wi':List D}{Ai':List Int}{B':Nat}(s:LS S0 S d h nr sd rw ra ro l size x E L W A Wi Ai B)(o:Out S h L (A0 l size E') L' ls v S')(vb:E'.length=E.length+1)(ho:aT (A0 l size E') (L'.map (·.1)) B')(hA:∀p∈L',p.1.asked≠[])(hB:B+1<=B')(inv:Inv1 l x E' (L'.map (·.1)) Wi' Ai')(hE:(∀e∈E',e = .tup [])\/l=[])(h0:Ai'=[]->E'=[]\/l=[]):
 ∃r,v = .ref r/\S'[rw]?=some (.lst W)/\S'[ro]?=some (.lst ((List.range E.length).map λ(k:Nat)=>.int k)) /\
  ((S'.set rw (.lst (W++[dC E.length]))).set ro (.lst ((List.range E.length).map (λ(k:Nat)=>D.int k)++[.int E.length])))[r]?=some (.lst ls)/\r≠rw/\r≠ro/\¬In h L' r/\LS S0 ((S'.set rw (.lst (W++[dC E.length]))).set ro (.lst ((List.range E.length).map (λ(k:Nat)=>D.int k)++[.int E.length]))) d h nr sd rw ra ro l size x E' L' (W++[dC E.length]) A Wi' Ai' B':=by
 obtain⟨r,e,r1,r2,r3,r4,r5,r6,r7,r8⟩:=s.out o;obtain⟨di,kQ,fh,ha,ho',hA',gn,gs,gw,ga,go,i1,i2,i3,i4,i5,n1,n2,n3,n4,n5,e1,e2,e3,e4,e5,e6,e7,wk,wl,al,fr,_,_,_⟩:=s;have lw:=aZ gw;have lo:=aZ go;have g3:=r8.at gw n3;have g5:=r8.at go n5;have m3:=r7 _ lw n3;have m5:=r7 _ lo n5;have hf:Fr (λi=>i=rw\/i=ro) S' ((S'.set rw (.lst (W++[dC E.length]))).set ro (.lst ((List.range E.length).map (λ(k:Nat)=>D.int k)++[.int E.length]))):=cR (cR (Fr.refl _ _) λ_=>Or.inl rfl) λ_=>Or.inr rfl;have iD:=r4.fr hf (by omega);have hh':=r5.fr hf λi hi e=>by
  rcases e with rfl|rfl
  .exact m3 hi
  .exact m5 hi
 refine⟨r,e,g3,g5,hf.at r2 (by omega),by omega,by omega,r3,iD,kQ,fh,hh',ho,hA,hf.at (r8.at gn n1) (by omega),hf.at (r8.at gs n2) (by omega),ky (dA g3) (by omega),hf.at (r8.at ga n4) (by omega),?_,i1,i2,i3,i4,i5,r7 _ (aZ gn) n1,r7 _ (aZ gs) n2,m3,r7 _ (aZ ga) n4,m5,e1,e2,e3,e4,e5,e6,e7,λz hz=>?_,by simp;omega,by omega,r6.trans hf λi _ hi=>by omega,inv,hE,h0⟩
 .rw[vb,dA (ky g5 (by omega)),List.range_succ,List.map_append];rfl
 .rw[vb];rcases List.mem_append.mp hz with hz | hz
  .exact(wk z hz).mono (by omega)
  .rw[List.mem_singleton.mp hz];exact Or.inr ⟨_,rfl,by omega⟩
theorem LS.lists {rw' z8:Nat}{W':List D}{A':List Int}{Wi':List D}{Ai':List Int}{B':Nat}(s:LS S0 S d h nr sd rw ra ro l size x E L W A Wi Ai B)(gw:S[rw']?=some (.lst W'))(ga:S[z8]?=some (.lst (A'.map .int)))(h1:10<=rw'/\¬In h L rw'/\rw'≠nr/\rw'≠sd/\rw'≠z8/\rw'≠ro)(h2:10<=z8/\¬In h L z8/\ro≠z8)(wk:∀z∈W',dD E.length z)(wl:W'.length<=B')(al:A'.length<=8*B')(hB:B<=B')(hB':B'<=100000)(inv:Inv1 l x E (L.map (·.1)) Wi' Ai')(h0:Ai'=[]->E=[]\/l=[]):LS S0 S d h nr sd rw' z8 ro l size x E L W' A' Wi' Ai' B':=by obtain⟨di,kQ,fh,ha,ho,hA,gn,gs,_,_,go,i1,i2,i3,i4,i5,n1,n2,n3,n4,n5,e1,e2,e3,e4,e5,e6,e7,_,_,_,fr,_,hE,_⟩:=s;exact⟨di,kQ,fh,ha,ho.mono hB hB',hA,gn,gs,gw,ga,go,i1,i2,h1.1,h2.1,i5,n1,n2,h1.2.1,h2.2.1,n5,h1.2.2.1,h1.2.2.2.1,h1.2.2.2.2.1,h1.2.2.2.2.2,e5,e6,h2.2.2,wk,wl,al,fr,inv,hE,h0⟩
def St (S0:ae)(d h nr sd:Nat)(l:List Int)(size:Int)(x:D)(B:Nat)(ρ:RF.Env)(S:ae):Prop:=∃rw ra ro r0 dk dm fA dn E L W A,ρ=jX r0 d x nr size h sd rw ra ro dk dm fA dn/\LS S0 S d h nr sd rw ra ro l size x E L W A W A B
def kY:List CS:=[(bA (av (aB .NotEq (cK 2 (.dyn (aa 12)) [0,1] false (av (aB .NotEq (aa 1) (bp [(cE (.str "ask")),(aa 4)]))) (aa 1)) (aR []))) (ah [(bf 7 (aR [])),nM]) (ah [])),(bf 8 (bD .Add (aa 8) (cK 2 (.dyn (aa 12)) [0,1] false always (aa 0))))]
theorem jJ {x:D}(hx:aM x)(w:Str):bK 8 (.tup [.str w,x])=true:=by have h:=mn hx;have h:bK 7 x=true:=gS h (by decide);simp only[bK,List.all_cons,List.all_nil,Bool.and_true,Bool.true_and];exact h
theorem add_l {a b:Nat}{xs ys:List D}{Q:D->ae->Prop}(ha:S[a]?=some (.lst xs))(hb:S[b]?=some (.lst ys))(hl:xs.length+ys.length<=1000000)(q:Q (.ref S.length) (S++[.lst (xs++ys)])):Wp (fS .Add (.ref a) (.ref b) S) Q:=by refine ak ?_ q;show xy (.ref a) (.ref b) S=_;unfold xy;simp only[ha,hb];have:big (xs.length+ys.length)=true:=decide_eq_true (by unfold sizeLine;omega);rw[this];rfl
theorem zx {F:List Int}{r:Nat}{r0 dk dm dn:Option D}{B':Nat}(hx:aM x)(s:LS S0 S d h nr sd rw ra ro l size x E L W A W (A++F) B)(gr:S[r]?=some (.lst (il x F)))(hF:F.length<=8)(hB:B+1<=100000):
 Wf (ah kY (jX r0 d x nr size h sd rw ra ro dk dm (some (.ref r)) dn) S) { nx:=St S0 d h nr sd l size x (B+1),rt:=λ_ _=>False,bk:=St S0 d h nr sd l size x (B+1) }:=by
 have hle:(il x F).length<1000:=by unfold il;rw[List.length_map];omega
 have hal:=s.al;have D4:=s.ha.lt;have fh:=s.fh;unfold kY;apply aF;apply dH;apply iJ;apply i8;refine qG (λ_=>false) id gr hle rfl (λz hz=>?_) ?_
 .obtain⟨f,_,rfl⟩:=List.mem_map.mp hz;refine⟨_,_,rfl,?_,λe=>by cases e⟩;apply bE;rfl';refine Ah (jJ hx _) (jJ hx _) ?_;rfl';exact⟨by simp,rfl⟩
 have:((il x F).filter λ_=>false).map id=[]:=by simp
 rw[this];rfl';refine ne_0 (aO (aG _ _)) (aG _ _) ?_;rfl';refine d9 rfl ?_;apply bO;have s1:=(s.app (T:=[.lst []])).app (T:=[.lst []]);have g1:=aO (T:=[.lst []]) (aO (T:=[.lst []]) gr);generalize S++[.lst []]++[.lst []]=S1 at s1 g1;show Wf (ah [_] (jX r0 d x nr size h sd rw ra ro dk dm (some (.ref r)) dn) S1) _;apply aF;apply eD;apply vR;rfl';refine qG (λ_=>true) (λz=>match z with | .tup [a,_]=>a | _=>.aj) g1 hle rfl (λz hz=>?_) ?_
 .obtain⟨f,_,rfl⟩:=List.mem_map.mp hz;exact⟨_,_,rfl,rfl,λ_=>rfl⟩
 have:((il x F).filter λ_=>true).map (λz=>match z with | .tup [a,_]=>a | _=>.aj)=F.map D.int:=by rw[List.filter_eq_self.mpr (by simp),il,List.map_map];rfl
 rw[this];have s2:=s1.app (T:=[.lst (F.map .int)]);have D4:=s1.ha.lt;refine add_l s2.ga (aG _ _) (by have:=s.ho.bl;simp;omega) ?_;rw[<-List.map_append];have s3:=s2.app (T:=[.lst ((A++F).map .int)]);apply bO;have g3:=aG (S1++[.lst (F.map .int)]) (.lst ((A++F).map .int));have oA:=s2.ha.fresh (Nat.le_refl _);have l5:=aZ s2.go;have l3:=aZ s2.gw;have hhl2:=s2.ha.lt;generalize hq:(S1++[O.lst (F.map .int)]).length=q at g3 oA hhl2 l5 l3;exact⟨rw,q,ro,r0,dk,dm,_,dn,E,L,W,A++F,rfl,s3.lists s3.gw g3 ⟨s3.i3,s3.n3,s3.e1,s3.e2,by omega,s3.e4⟩ ⟨by omega,oA,by omega⟩ s3.wk (by have:=s3.wl;omega) (by simp;omega) (Nat.le_succ B) hB s3.inv s3.h0⟩
theorem Ml {r:Nat}{s':Int}{r0 dk dm dn:Option D}(hx:aM x)(s:LS S0 S d h nr sd rw ra ro l size x E L W [] [] [] B)(gr:S[r]?=some (.lst [.tup [.int s',gY x]]))(hB:B+1<=100000):
 Wf (ah kY (jX r0 d x nr size h sd rw ra ro dk dm (some (.ref r)) dn) S) { nx:=St S0 d h nr sd l size x (B+1),rt:=λ_ _=>False,bk:=St S0 d h nr sd l size x (B+1) }:=by
 unfold kY;apply aF;apply dH;apply iJ;apply i8;refine qG (λ_=>true) (λ_=>gY x) gr (by simp) rfl (λz hz=>?_) ?_
 .rw[List.mem_singleton.mp hz];refine⟨_,_,rfl,?_,λ_=>rfl⟩;apply bE;rfl';refine Ah (jJ hx _) (jJ hx _) ?_;rfl';refine⟨?_,rfl⟩;have:¬(D.tup [.str "no",x] = .tup [.str "ask",x]):=λe=>by have:=(List.cons.inj (D.tup.inj e)).1;exact absurd (D.str.inj this) (by decide +kernel)
  simp[this]
 rfl';refine ne_0 (aO (aG _ _)) (aG _ _) ?_;rfl';refine jr (by simp) ?_;have s1:=(s.app (T:=[.lst [gY x]])).app (T:=[.lst []]);show Wf (ah [bf 7 (aR []),nM] (jX r0 d x nr size h sd rw ra ro dk dm (some (.ref r)) dn) (S++[.lst [gY x]]++[.lst []])) _;generalize S++[.lst [gY x]]++[.lst []]=S1 at s1;rfl';have s2:=s1.app (T:=[.lst []]);have g2:=aG S1 (.lst []);have oA:=s1.ha.fresh (Nat.le_refl _);have D4:=s1.ha.lt;have fh:=s1.fh;have l1:=aZ s1.gn;have l2:=aZ s1.gs;have l4:=aZ s1.ga;have l5:=aZ s1.go;generalize hq:S1.length=q at g2 oA D4 l1 l2 l4 l5;exact⟨q,ra,ro,r0,dk,dm,_,dn,E,L,[],[],rfl,s2.lists g2 s2.ga ⟨by omega,oA,by omega,by omega,by omega,by omega⟩ ⟨s2.i4,s2.n4,s2.e7⟩ (by simp) (by simp) (by simp) (Nat.le_succ B) hB s2.inv s2.h0⟩
end
section
abbrev GV (cl:Calls):CS:=(bA (av (aB .Eq (ao (cl.f 18) [(aa 1),(cE (.int 2))]) (cE (.int 0)))) (ah [(tupS [11,12] (az T.aJ cl.m (some 4) none (aa 5) [(aa 2),(cE (.int 0))])),(bh (az T.aJ cl.m (some 3) (some .append) (aa 7) [(bp [(cE (.str "own")),(aa 11)])])),(bh (az T.aJ cl.m (some 3) (some .append) (aa 9) [(aa 11)]))]) (ah [(bf 13 (bQ (aa 3) (ao (cl.f 18) [(aa 1),(cE (.int 4))]))),(bf 12 (az T.aJ cl.m (some 8) none (aa 5) [(aa 13),(bp [(cE (.str "ask")),(aa 2)]),(cE (.int 0))])),(bf 7 (bD .Add (aa 7) (mG (av (aB .NotIn (aa 13) (aa 7))) (aR [(aa 13)]) (aR []))))]))
variable {S0 S S':ae}{d h nr sd rw ra ro:Nat}{l:List Int}{size:Int}{x:D}{E:List D}{L:WL}{W:List D}{A:List Int}{Wi:List D}{Ai:List Int}{B:Nat}
theorem pW {t:List Int}{y:WA}:(dS t y).length<=t.length:=List.length_filter_le _ _
theorem LS.l8 (s:LS S0 S d h nr sd rw ra ro l size x E L W A Wi Ai B):l.length<=8:=by have:=(s.ho.held (.tup [],l++[5]) (by simp)).2.2.1;simp at this;omega
theorem JD {n:Nat}{ρ:RF.Env}(hl:∀i∈l,i∈fq)(hn:l.Nodup)(hx:aM x)(hB:B+3<=100000)(hs:St S0 d h nr sd l size x B ρ S):
 Wf (ah (GV (ag P (n+8))::kY) ρ S) { nx:=St S0 d h nr sd l size x (B+3),rt:=λ_ _=>False,bk:=St S0 d h nr sd l size x (B+3) }:=by
 obtain⟨rw,ra,ro,r0,dk,dm,fA,dn,E,L,W,A,rfl,s⟩:=hs;have l8:=s.l8;apply aF;apply dH;rfl';refine wp_mono (dR (n+6) d 2 _ s.di (by decide) (by decide)) λv S1 ⟨⟨z,ez,z1,z2⟩,jo,iE⟩=>?_;subst ez;have s:=s.tH jo iE;clear iE jo;rfl';refine f7 (λ_=>?_) (λ_=>?_)
 .
  have q0:=s.ha.o0;apply aF;apply vK;rfl';refine wp_mono (B2 (n:=n) s.ha s.ho (by omega) s.hA hx (by omega)) λv S2 ⟨L',u,ev,eL,o⟩=>?_;subst ev;have aq:=zC (now:=0) s.ho (by omega) hx;rw[<-eL] at aq;have qT:∀p∈L',p.1.asked≠[]:=λp hp=>by have h1:p.1∈L'.map (·.1):=List.mem_map.mpr ⟨p,hp,rfl⟩;rw[eL] at h1;refine uK (λz hz=>?_) p.1 h1;obtain⟨q,hq,rfl⟩:=List.mem_map.mp hz;exact s.hA q hq
  refine⟨_,_,rfl,rfl,?_⟩;have hans:nX (A0 l size E) (L.map (·.1)) x 0=fZ (A0 l size (E++[.tup []])) (L.map (·.1)) (dC E.length) x 0:=rfl;rw[hans,Hh hl] at o eL aq;have Nl:=Iu s.wk;have fin:∀(F:List Int) (E':List D) (r:Nat),u = .ref r->F.length<=8->S2[rw]?=some (.lst W)->S2[ro]?=some (.lst ((List.range E.length).map λ(k:Nat)=>.int k))->r≠rw->r≠ro->((S2.set rw (.lst (W++[dC E.length]))).set ro (.lst ((List.range E.length).map (λ(k:Nat)=>D.int k)++[.int E.length])))[r]?=some (.lst (il x F))->LS S0 ((S2.set rw (.lst (W++[dC E.length]))).set ro (.lst ((List.range E.length).map (λ(k:Nat)=>D.int k)++[.int E.length]))) d h nr sd rw ra ro l size x E' L' (W++[dC E.length]) A (W++[dC E.length]) (A++F) (B+2) ->
   Wf (ah [(bh (az T.aJ (ag P (n+8)).m (some 3) (some .append) (aa 7) [(bp [(cE (.str "own")),(aa 11)])])),(bh (az T.aJ (ag P (n+8)).m (some 3) (some .append) (aa 9) [(aa 11)]))] (jX r0 d x nr size h sd rw ra ro dk (some (.int E.length)) (some u) dn) S2) { nx:=λρ S=>Wf (ah kY ρ S) { nx:=St S0 d h nr sd l size x (B+3),rt:=λ_ _=>False,bk:=St S0 d h nr sd l size x (B+3) },rt:=λ_ _=>False,bk:=St S0 d h nr sd l size x (B+3) }:=by
   intro F E' r eu hF g3 g5 n3 n5 gr s';subst eu;have e4:=s.e4;have mX:=s.wl;have hel:E.length<=B:=s.ho.el;have hwl':=aZ g3;have hol':=aZ g5;rfl';refine⟨W,g3,by unfold sizeLine;omega,?_⟩;rfl';refine⟨_,by ac_rfl,by simp[sizeLine];omega,?_⟩;rfl';exact zx (B':=B+3) hx s' gr hF (by omega)
  by_cases hc:(ba l (dC E.length) (waitOf (L.map (·.1)) x 0)).asked=[]
  .rw[if_pos hc] at o eL aq;obtain⟨rfl,ye,x4⟩:=De s.inv hc;have x4:l=[]:=x4.resolve_right λ⟨_,e⟩=>by cases e
   have eE:(bx (E++[.tup []]) [dC E.length] (.tup [.aj])).length=E.length+1:=by rw[fi];simp
   obtain⟨r,er,g3,g5,gr,n3,n5,_,s'⟩:=s.own o eE aq qT (by omega) (Wi':=W++[dC E.length]) (Ai':=[]) (Or.inl ⟨rfl,by rw[eL,ye],Or.inr x4⟩) (Or.inr x4) (λ_=>Or.inr x4);exact fin [] _ r er (by simp) g3 g5 n3 n5 gr s'
  .rw[if_neg hc] at o eL aq;have vb:(∀e∈E++[D.tup []],e = .tup [])\/l=[]:=by
    rcases s.hE with h | h
    .left;intro e he;rcases List.mem_append.mp he with he | he
     .exact h e he
     .exact List.mem_singleton.mp he
    .exact Or.inr h
   have inv:=y9 (E':=E++[.tup []]) hn s.inv vb (λj hj=>by
    rw[Nl]
    by_cases DW:j<E.length
    .exact Or.inl DW
    .have:j=E.length:=by simp at hj;omega
     rw[this];exact Or.inr (by simp)) s.h0 hc
   have h0':A++dS l { waitOf (L.map (·.1)) x 0 with aS:=aI (waitOf (L.map (·.1)) x 0).aS (dC E.length) }=[]->E++[.tup []]=[]\/l=[]:=λe=>by
    rcases inv with⟨_,hz,_⟩|⟨hz,_⟩
    .exfalso;unfold hZ at hz;split at hz
     .rename_i ha;rw[List.map_eq_nil_iff] at hz;rw[hz] at ha;cases ha
     .simp at hz
    .exact absurd e hz
   rw[Nl] at inv;obtain⟨r,er,g3,g5,gr,n3,n5,_,s'⟩:=s.own o (by simp) aq qT (by omega) (by rw[eL];exact inv) vb h0';exact fin _ _ r er (Nat.le_trans pW l8) g3 g5 n3 n5 gr s'
 .
  apply aF;apply eD;rfl';refine wp_mono (dR (n+6) d 4 _ s.di (by decide) (by decide)) λv S2 ⟨⟨z,ez,z1,z2⟩,hd2,jy⟩=>?_;subst ez;have s:=s.tH hd2 jy;clear jy hd2;obtain⟨y,ey,hm⟩:=ly (xs:=fq.map D.int) z1 (by simpa using z2);obtain⟨qi,hsd,rfl⟩:=List.mem_map.mp hm;refine sC s.gn ey ?_;have q0:=s.ha.o0;apply aF;apply eD;rfl';refine wp_mono (yq (n:=n) s.ha s.ho s.hA hx (by omega) hsd) λv S3 ⟨L',eL,o⟩=>?_;have aq:=zM (now:=0) s.ho (by omega) hx (Or.inl ⟨qi,rfl⟩);rw[<-eL] at aq;have qT:∀p∈L',p.1.asked≠[]:=λp hp=>by have h1:p.1∈L'.map (·.1):=List.mem_map.mpr ⟨p,hp,rfl⟩;rw[eL] at h1;refine uK (λz hz=>?_) p.1 h1;obtain⟨q,hq,rfl⟩:=List.mem_map.mp hz;exact s.hA q hq
  rw[Hh hl] at o eL aq;have vF:bx E [.int qi] (.tup [.aj])=E:=rfl;have fin:∀(r:Nat) (Wi':List D) (Ai':List Int) (ls:List D),v = .ref r->S3[r]?=some (.lst ls)->LS S0 S3 d h nr sd rw ra ro l size x E L' W A Wi' Ai' (B+1) ->
   (∀S4 rw',S4[r]?=some (.lst ls)->LS S0 S4 d h nr sd rw' ra ro l size x E L' (aI W (.int qi)) A Wi' Ai' (B+2)->Wf (ah kY (jX r0 d x nr size h sd rw' ra ro dk dm (some (.ref r)) (some (.int qi))) S4) { nx:=St S0 d h nr sd l size x (B+3),rt:=λ_ _=>False,bk:=St S0 d h nr sd l size x (B+3) }) ->
   Wf (ah [(bf 7 (bD .Add (aa 7) (mG (av (aB .NotIn (aa 13) (aa 7))) (aR [(aa 13)]) (aR []))))] (jX r0 d x nr size h sd rw ra ro dk dm (some v) (some (.int qi))) S3) { nx:=λρ S=>Wf (ah kY ρ S) { nx:=St S0 d h nr sd l size x (B+3),rt:=λ_ _=>False,bk:=St S0 d h nr sd l size x (B+3) },rt:=λ_ _=>False,bk:=St S0 d h nr sd l size x (B+3) }:=by
   intro r Wi' Ai' ls ev gr s' k;subst ev;apply aF;apply eD;have gw:=s'.gw;have mX:=s'.wl;rfl';refine jI gw rfl (λz hz=>jQ (s'.wk z hz)) ?_;have last:∀W1:List D,aI W (.int qi)=W++W1->W1.length<=1->Wp (fS .Add (.ref rw) (.ref S3.length) (S3++[.lst W1])) λdd S1=>Wf (ah kY ((jX r0 d x nr size h sd rw ra ro dk dm (some (.ref r)) (some (.int qi))).set 7 (some dd)) S1) { nx:=St S0 d h nr sd l size x (B+3),rt:=λ_ _=>False,bk:=St S0 d h nr sd l size x (B+3) }:=by
    intro W1 e hW1;refine add_l (aO gw) (aG _ _) (by omega) ?_;have s2:=(s'.app (T:=[.lst W1])).app (T:=[.lst (W++W1)]);have g2:=aG (S3++[.lst W1]) (.lst (W++W1));have gr2:=aO (T:=[.lst (W++W1)]) (aO (T:=[.lst W1]) gr);have sm:=s'.app (T:=[.lst W1]);have oA:=sm.ha.fresh (Nat.le_refl _);have D4:=sm.ha.lt;have fh:=sm.fh;have l1:=aZ sm.gn;have l2:=aZ sm.gs;have l4:=aZ sm.ga;have l5:=aZ sm.go;generalize hq:(S3++[O.lst W1]).length=q at g2 oA D4 l1 l2 l4 l5;refine k _ q gr2 (s2.lists (by rw[e];exact g2) s2.ga ⟨by omega,oA,by omega,by omega,by omega,by omega⟩ ⟨s2.i4,s2.n4,s2.e7⟩ (λz hz=>?_) ?_ (by have:=s2.al;omega) (by omega) (by omega) s2.inv s2.h0)
    .unfold aI at hz;split at hz
     .exact s2.wk z hz
     .rcases List.mem_append.mp hz with hz | hz
      .exact s2.wk z hz
      .rw[List.mem_singleton.mp hz];exact Or.inl ⟨_,rfl⟩
    .rw[e];simp;omega
   rfl';refine f7 (λhc=>?_) (λhc=>?_)
   .rfl';refine wp_mono (last [] (by unfold aI;rw[if_pos hc];simp) (by simp)) λdd S1 q=>?_;apply bO;exact q
   .rfl';refine wp_mono (last [.int qi] (by unfold aI;rw[if_neg hc]) (by simp)) λdd S1 q=>?_;apply bO;exact q
  by_cases hc:(ba l (.int qi) (waitOf (L.map (·.1)) x 0)).asked=[]
  .rw[if_pos hc] at o eL aq;obtain⟨hA0,ye,_⟩:=De s.inv hc;have h0:=s.h0 hA0;subst hA0;obtain⟨r,er,_,gr,_,s'⟩:=s.same o (by rw[vF]) aq qT (by omega) (Wi':=[]) (Ai':=[]) (Or.inl ⟨rfl,by rw[eL,ye],Or.inl rfl⟩) (by rw[vF];exact s.hE) (λ_=>by rw[vF];exact h0);rw[vF] at s';exact fin r [] [] _ er gr s' λS4 rw' g4 s4=>Ml (s':=qi) hx s4 g4 (by omega)
  .rw[if_neg hc] at o eL aq;have inv:=y9 (E':=E) hn s.inv s.hE (λj hj=>Or.inl hj) s.h0 hc;obtain⟨r,er,_,gr,_,s'⟩:=s.same o rfl aq qT (by omega) (by rw[eL];exact inv) s.hE (λe=>s.h0 (List.append_eq_nil_iff.mp e).1);exact fin r _ _ _ er gr s' λS4 rw' g4 s4=>zx (B':=B+3) hx s4 g4 (Nat.le_trans pW l8) (by omega)
end
section
theorem tD {e:D}{k:Nat}:∀(Y E:List D),(∀y∈Y,dD E.length y)->k<E.length->(bx E Y e)[k]?=if dC k∈Y then some e else E[k]?
 | [],E,_,_=>by simp[bx]
 | y::Y,E,hY,hk=>by
  show (bx (jO e E y) Y e)[k]?=_;rcases hY y List.mem_cons_self with⟨i,rfl⟩|⟨j,rfl,hj⟩
  .rw[show jO e E (.int i)=E from rfl,tD Y E (λz hz=>hY z (List.mem_cons_of_mem _ hz)) hk];have:(dC k∈D.int i::Y)↔dC k∈Y:=by simp
   by_cases hm:dC k∈Y
   .rw[if_pos hm,if_pos (this.mpr hm)]
   .rw[if_neg hm,if_neg λh=>hm (this.mp h)]
  .have et:jO e E (D.tup [.str "own",.int j])=E.set j e:=rfl;rw[et,tD Y (E.set j e) (by rw[List.length_set];exact λz hz=>hY z (List.mem_cons_of_mem _ hz)) (by rw[List.length_set];exact hk)]
   by_cases hm:dC k∈Y
   .rw[if_pos hm,if_pos (List.mem_cons_of_mem _ hm)]
   .rw[if_neg hm]
    by_cases hjk:j=k
    .subst hjk;rw[if_pos List.mem_cons_self,List.getElem?_set_self hk]
    .rw[List.getElem?_set_ne hjk,if_neg];intro h;rcases List.mem_cons.mp h with h | h
     .have:(k:Int)=j:=by have:=D.tup.inj h;simpa using this
      omega
     .exact hm h
theorem wj {e:D}{Y E:List D}(hY:∀y∈Y,dD E.length y)(ho:∀k,k<E.length->dC k∈Y):bx E Y e=List.replicate E.length e:=by
 apply List.ext_getElem?;intro k
 by_cases hk:k<E.length
 .rw[tD Y E hY hk,if_pos (ho k hk),List.getElem?_replicate,if_pos hk]
 .rw[List.getElem?_eq_none (by rw[fi];omega),List.getElem?_eq_none (by rw[List.length_replicate];omega)]
theorem Fp (k:Nat)(x:D):(List.replicate k [x]).flatten=List.replicate k x:=by
 induction k with
 | zero=>rfl
 | succ k ih=>rw[List.replicate_succ,List.flatten_cons,ih];rfl
theorem yS {S:ae}{Q:D->ae->Prop}{r k:Nat}{x:D}(h:S[r]?=some (.lst [x]))(hk:k<=1000)(q:Q (.ref S.length) (S++[.lst (List.replicate k x)])):Wp (fS .Mult (.ref r) (.int k) S) Q:=by
 refine ak ?_ q;show wA (.ref r) (.int k) S=_;unfold wA;simp only[h];have e:(k:Int).toNat=k:=by omega
 have p:(2:Int) ^ 63=9223372036854775808:=by decide
 have:(decide (-(2 ^ 63)<=(k:Int))&&decide ((k:Int)<2 ^ 63)&&decide ([x].length*(k:Int).toNat<=sizeLine))=true:=by rw[p,e,decide_eq_true (by omega:-9223372036854775808<=(k:Int)),decide_eq_true (by omega:(k:Int)<9223372036854775808),decide_eq_true (by rw[List.length_singleton];unfold sizeLine;omega:[x].length*k<=sizeLine)];rfl
 rw[this,e,Fp];rfl
theorem tW {n h ro:Nat}{a:HA}{L:WL}{S:ae}{e:D}{m:Nat}{ρ:RF.Env}{v1 v2:Nat}{Q:D->ae->Prop}(hh:bt S h a L)(he:a.ends=List.replicate m e)(go:S[ro]?=some (.lst ((List.range m).map λ(k:Nat)=>.int k)))(hm:m<=1000)(h1:ρ[v1]?=some (some (.ref ro)))(h2:ρ[v2]?=some (some (.ref h)))(q:Q (.ref S.length) (S++[.lst (List.replicate m e)])):Wp (cK 1 (.dyn (aa v1)) [0] true always (az T.aJ (ag P (n+3)).m (some 10) none (aa (v2+1)) [(aa 0)]) ρ S) Q:=by
 apply fk;refine kh h1 ?_;refine cl go (by simp[sizeLine];omega) (λ_=>true) (λ_=>e) (λy hy=>⟨rfl,λ_=>?_⟩) ?_
 .obtain⟨k,hk,rfl⟩:=List.mem_map.mp hy;have hk:k<m:=by simpa using hk
  apply bE;apply zv;refine kh (by simpa using h2) ?_;have o0:=hh.o0;refine mo o0 rfl ?_;apply eh;refine kh rfl ?_;apply gD;refine ak (CT (B:=0) hh (by rw[he,List.getElem?_replicate,if_pos hk])) ?_;exact⟨rfl,rfl⟩
 .have:(((List.range m).map λ(k:Nat)=>D.int k).filter λ_=>true).map (λ_=>e)=List.replicate m e:=by
   rw[List.filter_eq_self.mpr (by simp),List.map_map];apply List.ext_getElem?;intro k;rw[List.getElem?_map,List.getElem?_replicate]
   by_cases hk:k<m
   .rw[if_pos hk,List.getElem?_range hk];rfl
   .rw[if_neg hk,List.getElem?_eq_none (by simp;omega)];rfl
  rw[this];exact q
theorem rQ {m:Nat}{y:D}(h:dD m y){S:ae}:mI S .tuple y=some (!fe y):=by rcases h with⟨i,rfl⟩|⟨k,rfl,_⟩<;>rfl
variable {S0 S S':ae}{d h nr sd rw ra ro:Nat}{l:List Int}{size:Int}{x:D}{E:List D}{L:WL}{W:List D}{A:List Int}{B:Nat}
def Done (S0:ae)(d h:Nat)(S:ae):Prop:=∃a L B,L=[]/\bt S h a L/\aT a (L.map (·.1)) B/\cC d S/\Fr (λi=>i=d\/10<=i) S0 S
theorem BS {x:D}(hx:aM x){v u s:Int}:bK 7 (.tup [.int s,de x v u])=true:=by have h:bK 5 x=true:=gS (mn hx) (by decide);simp only[bK,List.all_cons,List.all_nil,Bool.and_true,Bool.true_and,h]
theorem MH {x:D}(hx:aM x){s:Int}:bK 7 (.tup [.int s,gY x])=true:=by have h:bK 5 x=true:=gS (mn hx) (by decide);simp only[bK,List.all_cons,List.all_nil,Bool.and_true,Bool.true_and,h]
abbrev tA (l:List Int)(size:Int)(E:List D)(x:D)(s:Int)(W:List D):HA:=sv (A0 l size E) x s 7 3 0 W
abbrev eT (d h:Nat)(x:D)(size:Int)(rw ro:Nat)(s:Int)(rt:Nat):RF.Env:=[some (.ref d),some (.ref h),some x,some (.int size),some (.ref rw),some (.ref ro),some (.int s),some (de x 7 3),some (.ref rt)]
theorem sX {n:Nat}{s:Int}(hx:aM x)(hl:∀i∈l,i∈fq)(st:LS S0 S d h nr sd rw ra ro l size x E L W A W A B)(hA:A≠[])(hs:s∈A)(hB:B<=500):
 Wp ((ag P (n+9)).f 23 [.ref d,.ref h,x,.int size,.ref rw,.ref ro,.int s] S) λv S'=>v = .bl true/\Done S0 d h S':=by
 rcases st.inv with⟨h0,_⟩|⟨_,ye,hE0,GB,hWn,hAn,hAl⟩
 .exact absurd h0 hA
 have hsn:s∈fq:=hl s (hAl s hs);have mX:=st.wl;rw[pE];apply aK;unfold ju;apply aF;apply qY;rfl';apply fk;rfl';refine cl st.gw (by unfold sizeLine;omega) (λy=>fe y&&decide (y ≠ .int s)) id (λy hy=>⟨?_,λ_=>rfl⟩) ?_
 .apply bE;rfl';refine FH (rQ (st.wk y hy)) ?_;rfl';refine⟨λhc=>?_,λhc=>?_⟩
  .rfl';refine Ah (gS (jQ (st.wk y hy)) (by decide)) rfl ?_;rfl';refine⟨?_,rfl⟩;have:fe y=true:=by simpa using hc
   rw[this];simp
  .refine⟨?_,rfl⟩;have:fe y=false:=by simpa using hc
   rw[this];rfl
 rw[List.map_id];generalize yf:W.filter (λy=>fe y&&decide (y ≠ .int s))=tl;have hel:E.length<=B:=st.ho.el;have htb:tl.length<=B:=by rw[<-yf];exact Nat.le_trans (List.length_filter_le _ _) mX
 have hti:∀z∈tl,∃i,z = .int i:=λz hz=>by
  rw[<-yf] at hz;obtain⟨h1,h2⟩:=List.mem_filter.mp hz;rcases st.wk z h1 with h | ⟨k,rfl,_⟩
  .exact h
  .simp[fe] at h2
 have g9:=st.app (T:=[.lst tl]);have gt1:=aG S (.lst tl);have D5:=st.ha.fresh (Nat.le_refl _);have hrt:=aZ gt1;refine⟨_,rfl,?_⟩;generalize S.length=rt at gt1 D5 hrt;generalize S++[.lst tl]=S1 at g9 gt1 hrt;show Wf (ah (_::_::_::[_]) (eT d h x size rw ro s rt) S1) _;apply aF;apply dH;have q0:=g9.ha.o0;have J9:dO (A0 l size E) (L.map (·.1)) s x 7 3 0=(tA l size E x s W,[],lettersOf (W.filter λz=>decide (z ≠ .int s)) (de x 7 3)):=by rw[ye];unfold dO;rw[if_neg (by decide)];simp[hs]
 rfl';refine wp_mono (mF (n:=n+1) (now:=0) g9.ha g9.ho (by omega) hx (by decide) hsn (by decide:(0:Int)<=7) (by decide) (by decide:(0:Int)<=3)) λv S2 ⟨L2,oB,o2⟩=>?_;have fz:=AN (s:=s) (v:=7) (u:=3) (now:=0) g9.ho (by omega) hx;rw[<-oB] at fz;rw[J9] at o2 oB fz;dsimp only at oB o2 fz;have oB:L2=[]:=List.map_eq_nil_iff.mp oB;subst oB;obtain⟨r2,D6,r2a,r2b,r2c,r2d,r2e,r2f,r2g,r2h⟩:=g9.out o2;subst D6;have gt2:=r2h.at gt1 D5;have go2:=r2h.at g9.go g9.n5;have l2:=r2e.lt;have GC:lettersOf (W.filter λz=>decide (z ≠ .int s)) (de x 7 3)=tl.map λz=>.tup [z,de x 7 3]:=by rw[<-yf];unfold lettersOf;rw[List.filter_filter]
 rw[GC] at r2b;apply fk;refine kh rfl ?_;refine cl gt2 (by unfold sizeLine;omega) (λ_=>true) (λz=>.tup [z,de x 7 3]) (λy hy=>⟨rfl,λ_=>rfl⟩) ?_;rw[List.filter_eq_self.mpr (by simp)];have D7:∀z∈tl.map (λz=>D.tup [z,de x 7 3]),bK 7 z=true:=λz hz=>by obtain⟨y,hy,rfl⟩:=List.mem_map.mp hz;obtain⟨i,rfl⟩:=hti y hy;exact BS hx
 refine sV (aO r2b) (aG _ _) D7 D7 ?_;rfl';refine d9 rfl ?_;apply bO;have z9:=r2e.app (T:=[.lst (tl.map λz=>.tup [z,de x 7 3])]);have jz:=r2d.fr (Fr.app no S2 [.lst (tl.map λz=>.tup [z,de x 7 3])]) λh=>h;have iF:Fr (λi=>i=d\/10<=i) S0 (S2++[.lst (tl.map λz=>.tup [z,de x 7 3])]):=aU r2f;have Aa:=aO (T:=[.lst (tl.map λz=>.tup [z,de x 7 3])]) go2;generalize S2++[.lst (tl.map λz=>.tup [z,de x 7 3])]=S3 at z9 jz iF Aa;have vG:(tA l size E x s W).ends=List.replicate E.length (.tup [.int 7]):=by show bx E (W.filter λy=>decide (y ≠ .int s)) (.tup [.int 7])=_;refine wj (λy hy=>st.wk y (List.mem_filter.mp hy).1) λk hk=>List.mem_filter.mpr ⟨GB k hk,?_⟩;simp
 show Wf (ah (_::_::[_]) (eT d h x size rw ro s rt) S3) _;apply aF;apply dH;apply iJ;apply i8;refine tW (n:=n+5) (v2:=1) z9 vG Aa (by omega) rfl rfl ?_;rfl';rw[List.length_map,List.length_range];refine yS (aG _ _) (by omega) ?_;have D8:∀z∈List.replicate E.length (D.tup [.int 7]),bK 7 z=true:=λz hz=>by rw[(List.mem_replicate.mp hz).2];rfl
 refine sV (aO (aO (aG _ _))) (aG _ _) D8 D8 ?_;rfl';refine d9 rfl ?_;apply bO;have Ab:=(z9.app (T:=[.lst (List.replicate E.length (.tup [.int 7]))])).app (T:=[.lst [.tup [.int 7]]]) |>.app (T:=[.lst (List.replicate E.length (.tup [.int 7]))]);have lW:Fr no S3 (S3++[.lst (List.replicate E.length (.tup [.int 7]))]++[.lst [.tup [.int 7]]]++[.lst (List.replicate E.length (.tup [.int 7]))]):=aU (aU (aU (Fr.refl _ _)));have va:=jz.fr lW λh=>h;have go4:=lW.at Aa λh=>h;have hF4:=iF.trans lW λ_ _ h=>h.elim;generalize S3++[.lst (List.replicate E.length (.tup [.int 7]))]++[.lst [.tup [.int 7]]]++[.lst (List.replicate E.length (.tup [.int 7]))]=S4 at Ab va go4 hF4;clear lW;have hsz:=st.ho.r0;generalize hk:(if 0<size then [(x,7,3)] else []:List Row)=ks;have HF:(tA l size E x s W).kept=ks:=by
  show iI size [] x 7 3 0=_;rw[<-hk];unfold iI
  by_cases hz:0<size
  .rw[if_pos hz];simp[bG];omega
  .have hz0:size=0:=by have:(0:Int)<=size:=hsz;omega
   rw[if_neg hz,hz0];simp[bG]
 have q0:=Ab.o0;show Wf (ah (_::[_]) (eT d h x size rw ro s rt) S4) _;apply aF;apply dH;rfl';refine ak (wR (n:=n+6) Ab fz) ?_;rw[HF];have hsk:∀z∈ks.map line,bK 7 z=true:=λz hz=>by
  rw[<-hk] at hz;split at hz
  .have:z=line (x,7,3):=by simpa using hz
   rw[this];have h:bK 6 x=true:=gS (mn hx) (by decide);simp only[line,bK,List.all_cons,List.all_nil,Bool.and_true,h]
  .simp at hz
 have mid:∀S5:ae,bt S5 h (tA l size E x s W) []->cC d S5->S5[ro]?=some (.lst ((List.range E.length).map λ(k:Nat)=>.int k))->Fr (λi=>i=d\/10<=i) S0 S5 ->
  Wp (av (aB .NotEq (az T.aJ (ag P (n+8)).m (some 8) none (aa 1) [(aa 6),(aa 7),(cE (.int 0))]) (aR [])) (eT d h x size rw ro s rt) S5) λb S6=>b=false/\bt S6 h (tA l size E x s W) []/\cC d S6/\S6[ro]?=some (.lst ((List.range E.length).map λ(k:Nat)=>.int k))/\Fr (λi=>i=d\/10<=i) S0 S6:=by
  intro S5 kR yg yh hF5;have q0:=kR.o0;have yd:=qB (L:=[]) (S:=S5) (l:=l) (size:=size) (E:=E) st.kQ st.fh;rfl';refine wp_mono (mF (n:=n+1) (now:=0) (L:=[]) kR fz (by omega) hx (by decide) hsn (by decide:(0:Int)<=7) (by decide) (by decide:(0:Int)<=3)) λv S6 ⟨L6,eL6,o6⟩=>?_;have e6:dO (tA l size E x s W) [] s x 7 3 0=(tA l size E x s W,[],[]):=rfl;rw[List.map_nil,e6] at o6 eL6;have eL6:L6=[]:=List.map_eq_nil_iff.mp eL6;subst eL6;obtain⟨r6,er,ra1,ra2,ra3,yi,ra5,ra6⟩:=o6;subst er;rfl';refine ne_0 (aO ra2) (aG _ _) ?_;have lV:∀i,¬(10<=i)->¬In h [] i:=λi hi du=>by
   have:=st.fh;rcases du with du | ⟨p,hp,_⟩
   .omega
   .simp at hp
  have kO:¬In h [] ro:=λdu=>by
   rcases du with du | ⟨p,hp,_⟩
   .exact st.n5 (Or.inl du)
   .simp at hp
  rfl';refine⟨by simp,ra3.app,(yg.fr yi (lV d (by have:=st.kQ;omega))).fr (Fr.app no _ _) (λh=>h),aO (yi.at yh kO),aU (hF5.trans yi λi _ du=>?_)⟩
  by_cases hi:10<=i
  .exact Or.inr hi
  .exact absurd du (lV i hi)
 have kR:=(Ab.app (T:=[.lst (ks.map line)])).app (T:=[.lst (ks.map line)]);have hf5:Fr no S4 (S4++[.lst (ks.map line)]++[.lst (ks.map line)]):=aU (aU (Fr.refl _ _));have yg:=va.fr hf5 λh=>h;have yh:=hf5.at go4 λh=>h;have hF5:=hF4.trans hf5 λ_ _ h=>h.elim;have fin:∀S6:ae,bt S6 h (tA l size E x s W) []->cC d S6->S6[ro]?=some (.lst ((List.range E.length).map λ(k:Nat)=>.int k))->Fr (λi=>i=d\/10<=i) S0 S6 ->
  Wp (gR (aB .Eq (bQ (az T.aJ (ag P (n+8)).m (some 4) none (aa 1) [(aa 2),(cE (.int 0))]) (cE (.int 1))) (aR [])) (aB .Eq (az T.aJ (ag P (n+8)).m (some 10) none (aa 1) [(cX T.aJ (ag P (n+8)).m (some 1) (aa 5))]) (bp [(cE (.int 7))])) (eT d h x size rw ro s rt) S6) λv S'=>v = .bl true/\Done S0 d h S':=by
  intro S6 oC hd6 go6 hF6;have q0:=oC.o0;have Nm:iW { tA l size E x s W with ends:=(tA l size E x s W).ends++[D.tup []] } x 0=some (7,3):=by
   unfold iW;show (match gy (tA l size E x s W).kept x 0 with
    | some r=>some r.2
    | none=>(sy { tA l size E x s W with ends:=(tA l size E x s W).ends++[D.tup []] } x 0).map λ(r:D×Int×Int×Int)=>r.2.2)=_
   rw[HF,<-hk]
   by_cases hz:0<size
   .rw[if_pos hz];simp[gy]
   .rw[if_neg hz];simp[gy,sy,sv,kU,ir]
  have qT:nX (tA l size E x s W) [] x 0=({ tA l size E x s W with kept:=cI { tA l size E x s W with ends:=(tA l size E x s W).ends++[D.tup []] } x 0,ends:=((tA l size E x s W).ends++[D.tup []]).set (tA l size E x s W).ends.length (.tup [.int 7]) },[],[]):=by unfold nX fZ;rw[Nm];rfl
  rfl';refine wp_mono (B2 (n:=n) (now:=0) (L:=[]) oC fz (by omega) (by simp) hx (by decide)) λv S7 ⟨L7,u,ev,eL7,o7⟩=>?_;subst ev;have ho7:=zC (now:=0) fz (by omega) hx;rw[List.map_nil,qT] at o7 eL7 ho7;have eL7:L7=[]:=List.map_eq_nil_iff.mp eL7;subst eL7;obtain⟨r7,er,ra1,ra2,ra3,yi,ra5,ra6⟩:=o7;subst er;have lV:∀i,¬(10<=i)->¬In h [] i:=λi hi du=>by
   have:=st.fh;rcases du with du | ⟨p,hp,_⟩
   .omega
   .simp at hp
  have kO:¬In h [] ro:=λdu=>by
   rcases du with du | ⟨p,hp,_⟩
   .exact st.n5 (Or.inl du)
   .simp at hp
  have hd7:=hd6.fr yi (lV d (by have:=st.kQ;omega));have go7:=yi.at go6 kO;have hF7:Fr (λi=>i=d\/10<=i) S0 S7:=hF6.trans yi λi _ du=>by
   by_cases hi:10<=i
   .exact Or.inr hi
   .exact absurd du (lV i hi)
  rfl';refine eq_0 (aO ra2) (aG _ _) ?_;rfl';refine d9 rfl ?_;have hh8:=ra3.app (T:=[.lst []]);have go8:=aO (T:=[.lst []]) go7;have q8:=hh8.o0;rfl';rw[List.length_map,List.length_range];have hlen:(tA l size E x s W).ends.length=E.length:=by rw[vG];simp
  refine ak (CT (n:=n+5) (B:=0) (e:=.tup [.int 7]) hh8 ?_) ?_
  .show (((tA l size E x s W).ends++[D.tup []]).set (tA l size E x s W).ends.length (.tup [.int 7]))[E.length]?=_;rw[hlen,List.getElem?_set_self (by simp[hlen])]
  rfl';refine Fy rfl rfl ?_;refine⟨by simp,_,[],B+1+2,rfl,hh8,ho7,hd7.fr (Fr.app no _ _) (λh=>h),aU hF7⟩
 have next:∀S5:ae,bt S5 h (tA l size E x s W) []->cC d S5->S5[ro]?=some (.lst ((List.range E.length).map λ(k:Nat)=>.int k))->Fr (λi=>i=d\/10<=i) S0 S5->∀(K:En),K.rt=(λv S'=>v = .bl true/\Done S0 d h S')->Wf (retS (gR (aB .Eq (bQ (az T.aJ (ag P (n+8)).m (some 4) none (aa 1) [(aa 2),(cE (.int 0))]) (cE (.int 1))) (aR [])) (aB .Eq (az T.aJ (ag P (n+8)).m (some 10) none (aa 1) [(cX T.aJ (ag P (n+8)).m (some 1) (aa 5))]) (bp [(cE (.int 7))]))) (eT d h x size rw ro s rt) S5) K:=by intro S5 a1 a2 a3 a4 K e;apply jd;rw[e];exact fin S5 a1 a2 a3 a4
 by_cases hz:0<size
 .have ek:ks.map line=[.tup [x,.int 7,.int 3]]:=by rw[<-hk,if_pos hz];rfl
  rfl';refine d9 hz ?_;rfl';rw[<-ek];refine sV (aO (aG _ _)) (aG _ _) hsk hsk ?_;rfl';refine d9 rfl ?_;refine wp_mono (mid _ kR yg yh hF5) λb S6 ⟨eb,b1,b2,b3,b4⟩=>?_;subst eb;refine nJ ?_;apply bO;apply aF;exact next S6 b1 b2 b3 b4 _ rfl
 .have ek:ks.map line=[]:=by rw[<-hk,if_neg hz];rfl
  rfl';refine jr hz ?_;rfl';rw[<-ek];refine sV (aO (aG _ _)) (aG _ _) hsk hsk ?_;rfl';refine d9 rfl ?_;refine wp_mono (mid _ kR yg yh hF5) λb S6 ⟨eb,b1,b2,b3,b4⟩=>?_;subst eb;refine nJ ?_;apply bO;apply aF;exact next S6 b1 b2 b3 b4 _ rfl
end
section
variable {S0 S S':ae}{d h nr sd rw ra ro:Nat}{l:List Int}{size:Int}{x:D}{E:List D}{L:WL}{W:List D}{A:List Int}{B:Nat}
theorem q9 {A:List Int}(hn:A.Nodup){i:Nat}{s:Int}(h:A[i]?=some s):(A.drop i).erase s=A.drop (i+1)/\s∈A.drop i:=by
 have e:A.drop i=s::A.drop (i+1):=by obtain⟨h1,h2⟩:=List.getElem?_eq_some_iff.mp h;rw[List.drop_eq_getElem_cons h1,h2]
 rw[e];simp
structure NS (S0 S:ae)(d h rw ra ro:Nat)(l:List Int)(size:Int)(x:D)(E:List D)(W:List D)(A:List Int)(i:Nat)(B:Nat)(rA:Nat):Prop where
 di:cC d S
 wt:∃L:WL,L.map (·.1)=[⟨x,0,W,A.drop i,A.take i⟩]/\bt S h (A0 l size E) L/\aT (A0 l size E) (L.map (·.1)) B/\¬In h L rw/\¬In h L ra/\¬In h L ro/\¬In h L rA
 gw:S[rw]?=some (.lst W)
 ga:S[ra]?=some (.lst (A.map .int))
 go:S[ro]?=some (.lst ((List.range E.length).map λ(k:Nat)=>.int k))
 gA:S[rA]?=some (.lst ((A.take (A.length-1)).map .int))
 fr:Fr (λi=>i=d\/10<=i) S0 S
theorem GJ {h:Nat}{a:HA}{L:WL}(hh:bt S h a L)(fh:10<=h):∀i,In h L i->10<=i:=λi hi=>by
 rcases hi with hi | ⟨p,hp,i1,i2⟩
 .omega
 .have:=hh.lo p hp;omega
abbrev eN (h:Nat)(x:D)(rw ro ra:Nat)(a b:Option D):RF.Env:=[some (.ref h),some x,some (.ref rw),some (.ref ro),some (.ref ra),a,b]
theorem xm {n:Nat}(hx:aM x)(hl:∀i∈l,i∈fq)(st:LS S0 S d h nr sd rw ra ro l size x E L W A W A B)(hA:A≠[])(hB:B<=500):
 Wp ((ag P (n+9)).f 24 [.ref h,x,.ref rw,.ref ro,.ref ra] S) λv S'=>v = .bl true/\Done S0 d h S':=by
 rcases st.inv with⟨h0,_⟩|⟨_,ye,hE0,GB,hWn,hAn,hAl⟩
 .exact absurd h0 hA
 have mX:=st.wl;have hal:=st.l8;have Nn:=st.kQ;have fh:=st.fh;have hA1:1<=A.length:=by
  cases A with
  | nil=>exact absurd rfl hA
  | cons a A=>simp
 have hA8:A.length<=8*B:=st.al;have hel:E.length<=B:=st.ho.el;rw[sF];apply aK;unfold ku;apply aF;apply xG;refine ak (a:=.ref S.length) (S:=S++[.lst ((A.take (A.length-1)).map .int)]) ?_ ?_
 .show nO (.ref ra) none (some (-1)) S=_;have:cutD (A.map D.int) none (some (-1))=(A.take (A.length-1)).map D.int:=by
   unfold cutD a9;rw[List.length_map];have h1:((-1:Int)+(A.length:Int)).toNat=A.length-1:=by omega
   simp only[if_pos (by decide:(-1:Int)<0),h1];simp
  simp only[nO,bz st.ga,this];rfl
 have gA:=aG S (.lst ((A.take (A.length-1)).map .int));have hnA:=st.ha.fresh (Nat.le_refl _);have g9:=st.app (T:=[.lst ((A.take (A.length-1)).map .int)]);generalize S.length=rA at gA hnA;generalize S++[.lst ((A.take (A.length-1)).map .int)]=S1 at gA g9;refine wq gA ?_;refine lI (Inv:=λi ρ S'=>(∃r5,ρ=(eN h x rw ro ra r5 none))/\NS S0 S' d h rw ra ro l size x E W A i (B+i) rA) ⟨⟨_,rfl⟩,g9.di,⟨L,by simpa using ye,g9.ha,g9.ho,g9.n3,g9.n4,g9.n5,hnA⟩,g9.gw,g9.ga,g9.go,gA,g9.fr⟩ (λi ρ S' _ hI=>decide_eq_true (bz hI.2.gA)) (λi y ρ S2 hi hI=>?_) (λρ S2 hI=>?_)
 .obtain⟨⟨r5,rfl⟩,di,⟨L2,oB,yj,fz,n3,n4,n5,nA⟩,gw2,ga2,go2,gA2,D9⟩:=hI;rw[List.getElem?_map] at hi;cases hs:(A.take (A.length-1))[i]? with
  | none=>rw[hs] at hi;cases hi
  | some s=>
   rw[hs] at hi;have hy:D.int s=y:=by simpa using hi
   subst hy;have hi1:i<A.length-1:=by have:=(List.getElem?_eq_some_iff.mp hs).1;rw[List.length_take] at this;omega
   have yk:A[i]?=some s:=by rw[List.getElem?_take,if_pos hi1] at hs;exact hs
   have hsA:=List.mem_of_getElem? yk;obtain⟨Ea,D6⟩:=q9 hAn yk;have eJ:A.drop (i+1)≠[]:=λe=>by have:=congrArg List.length e;simp at this;omega
   have kO:fN (A0 l size E) (L2.map (·.1)) s x=(A0 l size E,[⟨x,0,W,A.drop (i+1),A.take (i+1)⟩],[]):=by
    rw[oB];unfold fN;have:([⟨x,0,W,A.drop i,A.take i⟩]:List WA).find? (λy=>decide (y.nm=x))=some ⟨x,0,W,A.drop i,A.take i⟩:=by simp
    rw[this];dsimp only;rw[if_pos D6,Ea,if_neg eJ];simp only[List.map_cons,List.map_nil,if_true];rw[take_succ yk];show (_,[({ nm:=x,since:=0,aS:=W,asked:=(A.drop i).erase s,gz:=A.take i++[s] }:WA)],_)=_;rw[Ea]
   refine⟨_,rfl,?_⟩;show Wf (ah [_] (eN h x rw ro ra (some (.int s)) none) S2) _;have q0:=yj.o0;rfl';refine wp_mono (rD (n:=n+1) (now:=0) yj fz (by omega) hx (by decide) (hl s (hAl s hsA))) λv S3 ⟨L3,eL3,o3⟩=>?_;have ho3:=we (s:=s) (x:=x) fz (by omega);rw[<-eL3] at ho3;rw[kO] at eL3 o3 ho3;obtain⟨r,er,a1,a2,a3,a4,a5,a6⟩:=o3;subst er;have m7:=GJ yj fh;have mV:Fr (λi=>i=d\/10<=i) S0 S3:=D9.trans a4 λi _ hi=>Or.inr (m7 i hi);have di3:=di.fr a4 λhi=>by have:=m7 d hi;omega
   have BH:∀j,j<S2.length->¬In h L2 j->¬In h L3 j:=λj hj hn du=>hn (xP a5 j hj du);rfl';refine ne_0 (aO a2) (aG _ _) ?_;rfl';refine d9 rfl ?_;have ha4:=a3.app (T:=[.lst []]);have q4:=ha4.o0;rfl';refine wp_mono (uQ (n:=n+7) ha4 ho3) λv S4 ⟨xs,ev,g4,D3,f4⟩=>?_;subst ev;rfl';refine eq_0 (aO g4) (aG _ _) ?_;have hx0:¬xs=[]:=λe=>by
    have h1:L3.length=1:=by have:=congrArg List.length eL3;simpa using this
    rw[e,h1] at D3;simp at D3
   rfl';refine jr hx0 ?_;rfl';have fT:Fr no S3 (S4++[.lst []]):=aU ((aU (Fr.refl _ _):Fr no S3 (S3++[.lst []])).trans f4 λ_ _ h=>h);have F:=λ{j o} (g:S2[j]?=some o) (hn:¬In h L2 j)=>fT.at (a4.at g hn) λh=>h;exact⟨⟨_,rfl⟩,di3.fr fT λh=>h,⟨L3,eL3,a3.fr fT λ_ _ h=>h,ho3,BH _ (aZ gw2) n3,BH _ (aZ ga2) n4,BH _ (aZ go2) n5,BH _ (aZ gA2) nA⟩,F gw2 n3,F ga2 n4,F go2 n5,F gA2 nA,mV.trans fT λ_ _ h=>h.elim⟩
 .obtain⟨⟨r5,rfl⟩,di,⟨L2,oB,yj,fz,n3,n4,n5,nA⟩,gw2,ga2,go2,gA2,D9⟩:=hI;rw[List.length_map,List.length_take,Nat.min_eq_left (by omega)] at oB fz;obtain⟨s,yk⟩:∃s,A[A.length-1]?=some s:=⟨_,List.getElem?_eq_getElem (by omega)⟩;obtain⟨Ea,D6⟩:=q9 hAn yk;have hsA:=List.mem_of_getElem? yk;have hd0:A.drop (A.length-1+1)=[]:=List.drop_eq_nil_of_le (by omega);rw[hd0] at Ea;have kO:fN (A0 l size E) (L2.map (·.1)) s x=(A0 l size (bx E W (.tup [.aj])),[],lettersOf W (gY x)):=by
   rw[oB];unfold fN;have:([⟨x,0,W,A.drop (A.length-1),A.take (A.length-1)⟩]:List WA).find? (λy=>decide (y.nm=x))=some ⟨x,0,W,A.drop (A.length-1),A.take (A.length-1)⟩:=by simp
   rw[this];dsimp only;rw[if_pos D6,if_pos Ea];simp
  have m7:=GJ yj fh;show Wf (ah [_,_,_] (eN h x rw ro ra r5 none) S2) _;apply aF;apply eD;apply fk;rfl';refine cl gw2 (by unfold sizeLine;omega) fe id (λy hy=>⟨?_,λ_=>rfl⟩) ?_
  .apply bE;rfl';refine FH (rQ (st.wk y hy)) ?_;rfl';exact⟨by simp,rfl⟩
  rw[List.map_id];generalize yf:W.filter fe=tl;have htb:tl.length<=B:=by rw[<-yf];exact Nat.le_trans (List.length_filter_le _ _) mX
  have hti:∀z∈tl,∃i,z = .int i:=λz hz=>by
   rw[<-yf] at hz;obtain⟨h1,h2⟩:=List.mem_filter.mp hz;rcases st.wk z h1 with h | ⟨k,rfl,_⟩
   .exact h
   .simp[fe] at h2
  have gt:=aG S2 (.lst tl);have D5:=yj.fresh (Nat.le_refl _);have fT:Fr no S2 (S2++[.lst tl]):=aU (Fr.refl _ _);have ha3:=yj.app (T:=[.lst tl]);have ga3:=aO (T:=[.lst tl]) ga2;have Aa:=aO (T:=[.lst tl]) go2;have di3:=di.fr fT λh=>h;have mV:=D9.trans fT λ_ _ h=>h.elim;generalize S2.length=rt at gt D5;generalize S2++[.lst tl]=S3 at gt ha3 ga3 Aa di3 mV;show Wf (ah [_,_] (eN h x rw ro ra r5 (some (.ref rt))) S3) _;apply aF;apply dH;have q0:=ha3.o0;rfl';apply wp_bind;apply Et;refine sC ga3 (v:=.int s) ?_ ?_
  .unfold j9 sj;rw[if_neg (by decide),if_pos (by simp;omega),List.length_map];have:((-1:Int)+(A.length:Int)).toNat=A.length-1:=by omega
   simp only[this,Option.bind_some,List.getElem?_map,yk];rfl
  rfl';refine wp_mono (rD (n:=n+1) (now:=0) ha3 fz (by omega) hx (by decide) (hl s (hAl s hsA))) λv S4 ⟨L4,Eb,o4⟩=>?_;have ho4:=we (s:=s) (x:=x) fz (by omega);rw[<-Eb] at ho4;rw[kO] at Eb o4 ho4;have Eb:L4=[]:=List.map_eq_nil_iff.mp Eb;subst Eb;obtain⟨r,er,a1,a2,a3,a4,a5,a6⟩:=o4;subst er;have gt4:=a4.at gt D5;have go4:=a4.at Aa n5;have di4:=di3.fr a4 λhi=>by have:=m7 d hi;omega
  have fr4:Fr (λi=>i=d\/10<=i) S0 S4:=mV.trans a4 λi _ hi=>Or.inr (m7 i hi);have GC:lettersOf W (gY x)=tl.map λz=>.tup [z,gY x]:=by rw[<-yf];rfl
  rw[GC] at a2;apply fk;refine kh rfl ?_;refine cl gt4 (by unfold sizeLine;omega) (λ_=>true) (λz=>.tup [z,gY x]) (λy hy=>⟨rfl,λ_=>rfl⟩) ?_;rw[List.filter_eq_self.mpr (by simp)];have D7:∀z∈tl.map (λz=>D.tup [z,gY x]),bK 7 z=true:=λz hz=>by obtain⟨y,hy,rfl⟩:=List.mem_map.mp hz;obtain⟨i,rfl⟩:=hti y hy;exact MH hx
  refine sV (aO a2) (aG _ _) D7 D7 ?_;rfl';refine d9 rfl ?_;apply bO;have kR:=a3.app (T:=[.lst (tl.map λz=>.tup [z,gY x])]);have fT:Fr no S4 (S4++[.lst (tl.map λz=>.tup [z,gY x])]):=aU (Fr.refl _ _);have di5:=di4.fr fT λh=>h;have yh:=fT.at go4 λh=>h;have zY:=fr4.trans fT λ_ _ h=>h.elim;generalize S4++[.lst (tl.map λz=>.tup [z,gY x])]=S5 at kR di5 yh zY;have vG:(A0 l size (bx E W (.tup [.aj]))).ends=List.replicate E.length (.tup [.aj]):=wj st.wk GB;show Wf (ah [_] (eN h x rw ro ra r5 (some (.ref rt))) S5) _;apply aF;apply jd;apply Cc;apply i8;refine tW (n:=n+5) (v2:=0) kR vG yh (by omega) rfl rfl ?_;rfl';rw[List.length_map,List.length_range];refine yS (aG _ _) (by omega) ?_;have D8:∀z∈List.replicate E.length (D.tup [.aj]),bK 7 z=true:=λz hz=>by rw[(List.mem_replicate.mp hz).2];rfl
  refine Pt (aO (aO (aG _ _))) (aG _ _) D8 D8 ?_;rfl';refine d9 rfl ?_;have oC:=(kR.app (T:=[.lst (List.replicate E.length (.tup [.aj]))])).app (T:=[.lst [.tup [.aj]]]) |>.app (T:=[.lst (List.replicate E.length (.tup [.aj]))]);have hf6:Fr no S5 (S5++[.lst (List.replicate E.length (.tup [.aj]))]++[.lst [.tup [.aj]]]++[.lst (List.replicate E.length (.tup [.aj]))]):=aU (aU (aU (Fr.refl _ _)));have di6:=di5.fr hf6 λh=>h;have fr6:=zY.trans hf6 λ_ _ h=>h.elim;generalize S5++[.lst (List.replicate E.length (.tup [.aj]))]++[.lst [.tup [.aj]]]++[.lst (List.replicate E.length (.tup [.aj]))]=S6 at oC di6 fr6;have q6:=oC.o0;rfl';refine ak (wR (n:=n+6) oC ho4) ?_;rfl';refine eq_0 (aO (aG _ _)) (aG _ _) ?_;have fT:Fr no S6 (S6++[.lst ([].map line)]++[.lst []]):=aU (aU (Fr.refl _ _));exact⟨by simp,_,[],_,rfl,oC.fr fT λ_ _ h=>h,ho4,di6.fr fT λh=>h,fr6.trans fT λ_ _ h=>h.elim⟩
end
def Ba (cl:Calls):List CS:=[(ke [2,3,4] [(ao (cl.f 21) [(aa 1)]),(aR [(cE (.int 1)),(cE (.int 2)),(cE (.int 3)),(cE (.int 4))]),(ao (cl.f 18) [(aa 1),(cE (.int 4))])]),(bf 5 (ia (cl.m 3 0) 3 [(cE (.int 0)),(aa 3)] (T.dh 3) ["room","wait"] [(aa 4),(cE (.int 9))])),(bf 6 (bD .Add (ao (cl.f 22) [(aa 1),(aa 3)]) (aR [(cE (.int 5))]))),(bh (az T.aJ cl.m (some 34) none (aa 5) [(bp []),(aa 6)])),(ke [7,8,9] [(aR []),(aR []),(aR [])])]
def AX (cl:Calls):List CS:=[(gM (.range (bD .Add (cE (.int 1)) (ao (cl.f 18) [(aa 1),(cE (.int 6))]))) [10] true (ah (GV cl::kY)))]
def Av (cl:Calls):List CS:=[(bA (av (aB .NotEq (cK 1 (.dyn (aa 8)) [0] true (jf (av (aB .Gt (az T.aJ cl.m (some 9) (some .count) (aa 9) [(aa 0)]) (cE (.int 1)))) (av (aB .NotIn (aa 0) (aa 7)))) (aa 0)) (aR []))) (ah [(retS (cE (.bl false)))]) (ah []))]
def outD (cl:Calls):List CS:=[(bA (iH (av (aB .NotEq (aa 7) (aR []))) (av (aB .NotEq (aa 8) (aR [])))) (ah [(bA (av (aB .Eq (ao (cl.f 18) [(aa 1),(cE (.int 2))]) (cE (.int 0)))) (ah [(bf 13 (bQ (aa 8) (ao (cl.f 18) [(aa 1),(cX T.aJ cl.m (some 1) (aa 8))]))),(bA (df (cw (ao (cl.f 23) [(aa 1),(aa 5),(aa 2),(aa 4),(aa 7),(aa 9),(aa 13)]))) (ah [(retS (cE (.bl false)))]) (ah []))]) (ah [(bA (df (cw (ao (cl.f 24) [(aa 5),(aa 2),(aa 7),(aa 9),(aa 8)]))) (ah [(retS (cE (.bl false)))]) (ah []))])),(bA (av (aB .NotEq (az T.aJ cl.m (some 41) none (aa 5) []) (aR []))) (ah [(retS (cE (.bl false)))]) (ah []))]) (ah []))]
theorem EB (cl:Calls):AE cl=ah [jG jb (ao (cl.f 19) [(aa 0),(cE (.int 4))]) 1 (ah (Ba cl++AX cl++Av cl++outD cl)),(retS (cE (.bl true)))]:=rfl
theorem xq {a b:List CS}{ρ:RF.Env}{S:ae}{K:En}(h:Wf (ah a ρ S) { K with nx:=λρ S=>Wf (ah b ρ S) K }):Wf (ah (a++b) ρ S) K:=by
 induction a generalizing ρ S with
 | nil=>exact h
 | cons c a ih=>
  show Wf ((c ρ S).then (ah (a++b))) K;have h:Wf ((c ρ S).then (ah a)) { K with nx:=λρ S=>Wf (ah b ρ S) K }:=h;cases e:c ρ S with
  | nx ρ1 S1=>rw[e] at h;exact ih h
  | rt d S1=>rw[e] at h;exact h
  | bk ρ1 S1=>rw[e] at h;exact h
  | ct ρ1 S1=>rw[e] at h;exact h
  | bad=>rw[e] at h;exact h
def Dt (S0:ae)(d:Nat)(ρ:RF.Env)(S:ae):Prop:=∃h nr sd l size x B,aM x/\(∀i∈l,i∈fq)/\l.Nodup/\B<=200/\St S0 d h nr sd l size x B ρ S
theorem JV {n d:Nat}{S0:ae}{ρ:RF.Env}(h0:S0.length=10)(hd:cC d S0)(hρ:∃r0 r2 r3 r4 r5 r6 r7 r8 r9 dk dm fA dn,ρ=[r0,some (.ref d),r2,r3,r4,r5,r6,r7,r8,r9,dk,dm,fA,dn]):
 Wf (ah (Ba (ag P (n+8))) ρ S0) { nx:=λρ' S'=>∃h nr sd l size x,aM x/\(∀i∈l,i∈fq)/\l.Nodup/\St S0 d h nr sd l size x 10 ρ' S',rt:=λ_ _=>False }:=by
 obtain⟨r0,r2,r3,r4,r5,r6,r7,r8,r9,dk,dm,fA,dn,rfl⟩:=hρ;have Nn:d<10:=by have:=hd.lt;omega
 unfold Ba;apply aF;apply qY;rfl';refine wp_mono (yv (n+4) d S0 hd) λx S1 ⟨hx,jo,iE⟩=>?_;have l1:10<=S1.length:=by have:=iE.1;omega
 rfl';have hd1':=jo.fr (Fr.app no S1 [.lst (fq.map .int)]) λh=>h;refine wp_mono (dR (n+6) d 4 _ hd1' (by decide) (by decide)) λv S2 ⟨⟨size,ev,z1,z2⟩,hd2,jy⟩=>?_;subst ev;have gn2:=jy.at (aG S1 (.lst (fq.map .int))) (by omega);have f2:Fr (· = d) S0 S2:=(aU iE).trans jy λ_ _ h=>h;have l2:S1.length+1<=S2.length:=by have:=jy.1;simpa using this
 generalize S1.length=nr at gn2 l1 l2;rfl';refine⟨_,rfl,?_⟩;show Wf (ah (_::_::[_,_]) [r0,some (.ref d),some x,some (.ref nr),some (.int size),r5,r6,r7,r8,r9,dk,dm,fA,dn] S2) _;apply aF;apply eD;apply oQ;rfl';have OF:oM (T.dh 3) ["room","wait"] [D.int size,.int 9]=[.int size,.int 9]:=by kernel_rfl
 rw[OF];refine wp_mono (Aq (n+2) S2.length nr 0 size 9 fq S2 rfl gn2 (by refine⟨by decide,by decide,by decide⟩) (by decide) (by decide) (by decide) z1 (by omega) (by decide) (by decide)) λv S3 ⟨ev,z9,iF,l3⟩=>?_;subst ev;refine⟨rfl,?_⟩;have gn3:=iF.at gn2 λh=>h;have jz:=hd2.fr iF λh=>h;have f3:=f2.trans iF λ_ _ h=>h.elim;generalize hh:S2.length=h at z9 l3 l2;show Wf (ah (_::[_,_]) [r0,some (.ref d),some x,some (.ref nr),some (.int size),some (.ref h),r6,r7,r8,r9,dk,dm,fA,dn] S3) _;apply aF;apply eD;rfl';refine wp_mono (yx (n+5) d nr fq S3 jz gn3 (by decide) (by decide) (by omega)) λv S4 ⟨l,ev,gl,ln,lm,ll,va,lW⟩=>?_;subst ev;have hnr:¬In h [] nr:=λhi=>by
  rcases hi with hi | ⟨p,hp,_⟩
  .omega
  .simp at hp
 have du:∀i,In h [] i->¬i=d:=λi hi e=>by
  rcases hi with hi | ⟨p,hp,_⟩
  .omega
  .simp at hp
 have Ab:=z9.fr lW du;have gn4:=lW.at gn3 (by omega);have f4:=f3.trans lW λ_ _ h=>h;rfl';refine add_l (aO gl) (aG _ _) (by simp;simp at ll;omega) ?_;have kR:=(Ab.app (T:=[.lst [.int 5]])).app (T:=[.lst (l.map .int++[.int 5])]);have fT:Fr no S4 (S4++[.lst [.int 5]]++[.lst (l.map .int++[.int 5])]):=aU (aU (Fr.refl _ _));have gn5:=fT.at gn4 λh=>h;have yg:=va.fr fT λh=>h;have f5:=f4.trans fT λ_ _ h=>h.elim;have gs5:=aG (S4++[.lst [.int 5]]) (.lst (l.map .int++[.int 5]));have l4:=lW.1;have lsd:h+10<(S4++[O.lst [.int 5]]).length:=by rw[List.length_append];simp;omega
 generalize (S4++[O.lst [.int 5]]).length=sd at gs5 lsd;generalize S4++[.lst [.int 5]]++[.lst (l.map .int++[.int 5])]=S5 at kR gn5 yg f5 gs5;show Wf (ah [_,_] [r0,some (.ref d),some x,some (.ref nr),some (.int size),some (.ref h),some (.ref sd),r7,r8,r9,dk,dm,fA,dn] S5) _;have hso:gW (l++[5]):=by
  refine⟨?_,by simp at ll ⊢;omega,λi hi=>?_⟩
  .rw[List.nodup_append];refine⟨ln,by simp,λa ha b hb e=>?_⟩;have:=lm a ha;rw[List.mem_singleton.mp hb] at e;rw[e] at this
   revert this
   decide
  .rcases List.mem_append.mp hi with hi | hi
   .have:=lm i hi;simp at this;omega
   .rw[List.mem_singleton.mp hi];decide
 have Np:S5[sd]?=some (.lst ((l++[5]).map .int)):=by rw[gs5];simp
 have Nq:aT (Hu 0 fq size 9) [] 10:=⟨(⟨by decide,by decide,by decide⟩:gW fq),z1,by show size<=9;omega,⟨by simp,by simp⟩,z1,by intro p hp;simp at hp,by simp,⟨by simp,by simp⟩,by simp,by simp,by simp,by simp,by simp,by simp,by simp,by decide⟩;have q5:=kR.o0;rfl';have ht:(ag P (n+8)).m 3 34 [.ref h,.tup [],.ref sd] S5 = .ok .aj (S5.set (h+4+1) (.aN ((mz [] (.tup []) (l++[5])).map jv))):=Fo (n:=n+1) (B:=10) kR Nq (Or.inr rfl) Np hso;refine ak ht ?_;have oC:=kR.held (mz [] (.tup []) (l++[5]));have fT:Fr (λi=>h<=i/\i<h+10) S5 (S5.set (h+4+1) (.aN ((mz [] (.tup []) (l++[5])).map jv))):=cR (Fr.refl _ _) λ_=>⟨by omega,by omega⟩;have gn6:=fT.at gn5 (by omega);have gs6:=fT.at Np (by omega);have hd6:=yg.fr fT (by omega);have f6:Fr (λi=>i=d\/10<=i) S0 (S5.set (h+4+1) (.aN ((mz [] (.tup []) (l++[5])).map jv))):=(f5.mono λi _ h=>Or.inl h:Fr (λi=>i=d\/10<=i) S0 S5).trans fT λi _ hi=>Or.inr (by omega);have hl6:=oC.lt;generalize S5.set (h+4+1) (.aN ((mz [] (.tup []) (l++[5])).map jv))=S6 at oC gn6 gs6 hd6 f6 hl6;have ln6:=aZ gn6;have ls6:=aZ gs6;have hA0:bt S6 h (A0 l size []) []:=oC;have hok6:aT (A0 l size []) [] 10:=by obtain⟨h1,h2,h3,h4,h5,h6,h7,h8,h9,wn,wk,el,pn,pl,ll,bl⟩:=Nq;exact⟨h1,h2,h3,h4,h5,λp hp=>by rw[List.mem_singleton.mp hp];exact⟨Or.inr rfl,hso⟩,by simp,h8,h9,wn,wk,el,pn,pl,ll,bl⟩
 have lV:∀j,h+10<=j->¬In h [] j:=λj hj hi=>by
  rcases hi with hi | ⟨p,hp,_⟩
  .omega
  .simp at hp
 rfl';refine⟨_,rfl,?_⟩;have e1:(S6++[O.lst []]).length=S6.length+1:=by simp
 have e2:(S6++[O.lst []]++[O.lst []]).length=S6.length+2:=by simp
 have fT:Fr no S6 (S6++[O.lst []]++[O.lst []]++[O.lst []]):=aU (aU (aU (Fr.refl _ _)));have gw:(S6++[O.lst []]++[O.lst []]++[O.lst []])[S6.length]?=some (.lst []):=by ac_rfl
 have ga:(S6++[O.lst []]++[O.lst []]++[O.lst []])[S6.length+1]?=some (.lst []):=by rw[<-e1];ac_rfl
 have go:(S6++[O.lst []]++[O.lst []]++[O.lst []])[S6.length+2]?=some (.lst []):=by rw[<-e2];ac_rfl
 rw[e1,e2];refine⟨h,nr,sd,l,size,x,hx,lm,ln,S6.length,S6.length+1,S6.length+2,r0,dk,dm,fA,dn,[],[],[],[],rfl,?_⟩;exact⟨hd6.fr fT λh=>h,Nn,by omega,hA0.fr fT λ_ _ h=>h,hok6,by simp,fT.at gn6 λh=>h,fT.at gs6 λh=>h,gw,ga,go,l1,by omega,by omega,by omega,by omega,hnr,lV _ (by omega),lV _ (by omega),lV _ (by omega),lV _ (by omega),by omega,by omega,by omega,by omega,by omega,by omega,by omega,by simp,by simp,by simp,f6.trans fT λ_ _ h=>h.elim,Or.inl ⟨rfl,rfl,Or.inl rfl⟩,Or.inl (by simp),λ_=>Or.inl rfl⟩
theorem Jd {n d:Nat}{S0 S:ae}{ρ:RF.Env}{h nr sd:Nat}{l:List Int}{size:Int}{x:D}(hx:aM x)(hl:∀i∈l,i∈fq)(hn:l.Nodup)(hs:St S0 d h nr sd l size x 10 ρ S):
 Wf (ah (AX (ag P (n+8))) ρ S) { nx:=Dt S0 d,rt:=λ_ _=>False }:=by
 have mk:∀B ρ S,B<=200->St S0 d h nr sd l size x B ρ S->Dt S0 d ρ S:=λB ρ S hB hs=>⟨h,nr,sd,l,size,x,B,hx,hl,hn,hB,hs⟩;unfold AX;apply aF;apply qm;obtain⟨rw,ra,ro,r0,dk,dm,fA,dn,E,L,W,A,rfl,s⟩:=hs;rfl';refine wp_mono (dR (n+6) d 6 _ s.di (by decide) (by decide)) λv S1 ⟨⟨z,ev,z1,z2⟩,jo,iE⟩=>?_;subst ev;have s:=s.tH jo iE;refine ak (a:=.int (1+z)) (S:=S1) rfl ?_;refine⟨_,rfl,?_,?_⟩
 .have p:(2:Int) ^ 62=4611686018427387904:=by decide
  unfold eX;rw[p,decide_eq_true (by omega:-4611686018427387904<=1+z),decide_eq_true (by omega:1+z<4611686018427387904)];rfl
 have hj:(1+z).toNat<=6:=by omega
 refine lI (Inv:=λi ρ S=>i<=6->St S0 d h nr sd l size x (10+3*i) ρ S) (λ_=>⟨rw,ra,ro,r0,dk,dm,fA,dn,E,L,W,A,rfl,s⟩) (λ_ _ _ _ _=>rfl) (λi y ρ S2 hi hI=>?_) (λρ S2 hI=>?_)
 .have hi6:i<6:=by have:=(List.getElem?_eq_some_iff.mp hi).1;rw[gZ] at this;omega
  obtain⟨rw,ra,ro,r0,dk,dm,fA,dn,E,L,W,A,rfl,s⟩:=hI (by omega);refine⟨_,rfl,?_⟩;refine jN (JD (n:=n) hl hn hx (by omega) (⟨rw,ra,ro,r0,some y,dm,fA,dn,E,L,W,A,rfl,s⟩:St S0 d h nr sd l size x (10+3*i) _ S2)) (λρ S hs _=>by rw[show 10+3*(i+1)=10+3*i+3 by omega];exact hs) (λ_ _ h=>h.elim) (λρ S hs=>?_) (λ_ _ h=>h.elim);exact mk _ ρ S (by omega) hs
 .rw[gZ] at hI;apply bO;exact mk _ ρ S2 (by omega) (hI hj)
theorem Ij {n d:Nat}{S0 S:ae}{ρ:RF.Env}(hs:Dt S0 d ρ S):Wf (ah (Av (ag P (n+8))) ρ S) { nx:=Dt S0 d,rt:=λ_ _=>False }:=by
 obtain⟨h,nr,sd,l,size,x,B,hx,hl,hn,hB,rw,ra,ro,r0,dk,dm,fA,dn,E,L,W,A,rfl,s⟩:=hs;have hal:=s.al;have hA:A.Nodup/\∀i∈A,i∈l:=by
  rcases s.inv with⟨h0,_⟩|⟨_,_,_,_,_,h1,h2⟩
  .rw[h0];simp
  .exact⟨h1,h2⟩
 unfold Av;apply aF;apply dH;apply iJ;apply i8;apply fk;rfl';refine cl s.ga (by simp[sizeLine];omega) (λ_=>false) id (λy hy=>⟨?_,λe=>by cases e⟩) ?_
 .obtain⟨i,hi,rfl⟩:=List.mem_map.mp hy;have ga:=s.ga;apply bE;apply Dj;apply iJ;apply i8;apply Cv;rfl';refine⟨i,rfl,ga,?_⟩;rfl';have:A.count i<=1:=List.nodup_iff_count.mp hA.1 i;refine jr (by omega) ?_;rfl';refine jI s.gs rfl gO ?_;rfl';refine⟨?_,rfl⟩;have:D.int i∈(l++[5]).map D.int:=fD.mpr (List.mem_append.mpr (Or.inl (hA.2 i hi)));rw[decide_eq_true this];rfl
 have:((A.map D.int).filter λ_=>false).map id=[]:=by simp
 rw[this];rfl';refine ne_0 (aO (aG _ _)) (aG _ _) ?_;rfl';refine d9 rfl ?_;rfl';exact⟨h,nr,sd,l,size,x,B,hx,hl,hn,hB,rw,ra,ro,r0,dk,dm,fA,dn,E,L,W,A,rfl,(s.app (T:=[.lst []])).app⟩
theorem JG {n d:Nat}{S0 S:ae}{ρ:RF.Env}(hs:Dt S0 d ρ S):Wf (ah (outD (ag P (n+9))) ρ S) { nx:=λρ' S'=>ρ'.length=14/\cC d S'/\Fr (λi=>i=d\/10<=i) S0 S',rt:=λ_ _=>False }:=by
 obtain⟨h,nr,sd,l,size,x,B,hx,hl,hn,hB,rw,ra,ro,r0,dk,dm,fA,dn,E,L,W,A,rfl,s⟩:=hs;have hal:=s.al;have fin:∀S1 dn,Done S0 d h S1->Wf (ah [(bA (av (aB .NotEq (az T.aJ (ag P (n+9)).m (some 41) none (aa 5) []) (aR []))) (ah [(retS (cE (.bl false)))]) (ah []))] (jX r0 d x nr size h sd rw ra ro dk dm fA dn) S1) { nx:=λρ' S'=>ρ'.length=14/\cC d S'/\Fr (λi=>i=d\/10<=i) S0 S',rt:=λ_ _=>False }:=by intro S1 dn ⟨a,L,B,hL,hh,ho,hd,hf⟩;subst hL;have q0:=hh.o0;rfl';refine wp_mono (uQ (n:=n+8) (L:=[]) hh ho) λv S2 ⟨xs,ev,g,hx,f⟩=>?_;subst ev;have hx:xs=[]:=List.length_eq_zero_iff.mp hx;rfl';refine ne_0 (aO g) (aG _ _) ?_;rfl';refine d9 hx ?_;rfl';exact⟨rfl,(hd.fr f λh=>h).fr (Fr.app no _ _) λh=>h,aU (hf.trans f λ_ _ h=>h.elim)⟩
 unfold outD;apply aF;apply dH;have gw:=s.gw;have ga:=s.ga;rfl';refine ne_0 (aO gw) (aG _ _) ?_;rfl';have skip:∀T,Wf (ah [] (jX r0 d x nr size h sd rw ra ro dk dm fA dn) (S++T)) { nx:=λρ S=>Wf (ah [] ρ S) { nx:=λρ' S'=>ρ'.length=14/\cC d S'/\Fr (λi=>i=d\/10<=i) S0 S',rt:=λ_ _=>False },rt:=λ_ _=>False }:=by intro T;apply bO;apply bO;have s:=s.app (T:=T);exact⟨rfl,s.di,s.fr⟩
 refine f7 (λhc=>?_) (λhc=>?_)
 .refine nJ ?_;exact skip _
 rfl';refine ne_0 (aO (aO ga)) (aG _ _) ?_;rfl';refine f7 (λuV=>?_) (λuV=>?_)
 .rw[List.append_assoc];exact skip _
 have hA:A≠[]:=λe=>uV (by rw[e];rfl);have s:=(s.app (T:=[.lst []])).app (T:=[.lst []]);generalize S++[.lst []]++[.lst []]=S1 at s;apply aF;apply dH;rfl';refine wp_mono (dR (n+7) d 2 _ s.di (by decide) (by decide)) λv S2 ⟨⟨z,ev,z1,z2⟩,hd2,jy⟩=>?_;subst ev;have s:=s.tH hd2 jy;rfl';refine f7 (λ_=>?_) (λ_=>?_)
 .apply aF;apply eD;have ga:=s.ga;have hal1:1<=A.length:=by
   cases A with
   | nil=>exact absurd rfl hA
   | cons a A=>simp
  rfl';rw[List.length_map];refine wp_mono (dR (n+7) d A.length _ s.di (by omega) (by omega)) λv S3 ⟨⟨z,ev,z1,z2⟩,jz,iF⟩=>?_;subst ev;have s:=s.tH jz iF;obtain⟨y,ey,hm⟩:=ly (xs:=A.map D.int) z1 (by simpa using z2);obtain⟨s',x5,rfl⟩:=List.mem_map.mp hm;refine sC s.ga ey ?_;apply aF;apply dH;rfl';refine wp_mono (sX (n:=n) hx hl s hA x5 (by omega)) λv S4 ⟨ev,BI⟩=>?_;subst ev;refine EW (Ej (qJ ?_));apply bO;apply bO;exact fin S4 _ BI
 .apply aF;apply dH;rfl';refine wp_mono (xm (n:=n) hx hl s hA (by omega)) λv S4 ⟨ev,BI⟩=>?_;subst ev;refine EW (Ej (qJ ?_));apply bO;apply bO;exact fin S4 _ BI
theorem ES {ρ:RF.Env}(h:ρ.length=14):∃r0 r1 r2 r3 r4 r5 r6 r7 r8 r9 dk dm fA dn,ρ=[r0,r1,r2,r3,r4,r5,r6,r7,r8,r9,dk,dm,fA,dn]:=by
 match ρ,h with
 | [r0,r1,r2,r3,r4,r5,r6,r7,r8,r9,dk,dm,fA,dn],_=>exact⟨r0,r1,r2,r3,r4,r5,r6,r7,r8,r9,dk,dm,fA,dn,rfl⟩
abbrev mf (cl:Calls):CS:=ah (Ba cl++AX cl++Av cl++outD cl)
theorem EU {S:ae}(hS:S.length=10){d:Nat}(hd:cC d S){ρ:RF.Env}(hρ:ρ.length=14)(h1:ρ[1]?=some (some (.ref d))):∃ρ' S' a b,mf (ag P 12) ρ S = .nx ρ' S'/\ρ'.length=14/\10<=S'.length/\S'.take 10=S.set d (.lst [.int a,.int b]):=by
 have w:Wf (mf (ag P 12) ρ S) { nx:=λρ' S'=>ρ'.length=14/\cC d S'/\Fr (λi=>i=d\/10<=i) S S',rt:=λ_ _=>False }:=by
  obtain⟨r0,r1,r2,r3,r4,r5,r6,r7,r8,r9,dk,dm,fA,dn,rfl⟩:=ES hρ;have h1:r1=some (.ref d):=by simpa using h1
  subst h1;refine xq (xq (xq ?_));refine jN (JV (n:=4) hS hd ⟨_,_,_,_,_,_,_,_,_,_,_,_,_,rfl⟩) (λρ1 S1 ⟨h,nr,sd,l,size,x,hx,hl,hn,hs⟩=>?_) (λ_ _ h=>h.elim);refine jN (Jd (n:=4) hx hl hn hs) (λρ2 S2 sJ=>?_) (λ_ _ h=>h.elim);refine jN (Ij (n:=4) sJ) (λρ3 S3 hs3=>?_) (λ_ _ h=>h.elim);exact JG (n:=3) hs3
 cases e:mf (ag P 12) ρ S with
 | nx ρ' S'=>
  rw[e] at w;obtain⟨w1,⟨a,b,w2⟩,w3⟩:=w;have hl:10<=S'.length:=by have:=w3.1;omega
  have hdl:=hd.lt;refine⟨ρ',S',a,b,rfl,w1,hl,?_⟩;apply List.ext_getElem?;intro i
  by_cases hi:i<10
  .rw[List.getElem?_take,if_pos hi]
   by_cases hid:i=d
   .subst hid;rw[w2,List.getElem?_set_self hdl]
   .rw[List.getElem?_set_ne (Ne.symm hid)];exact w3.2 i (by omega) (by omega)
  .rw[List.getElem?_eq_none (by simp;omega),List.getElem?_eq_none (by simp;omega)]
 | rt _ _=>rw[e] at w;exact w.elim
 | bk _ _=>rw[e] at w;exact w.elim
 | ct _ _=>rw[e] at w;exact w.elim
 | bad=>rw[e] at w;exact w.elim
theorem yP (g:Nat)(ds:List D):∀(l:List D) (ρ:RF.Env) (S:ae),(∀x∈l,x∈ds)->ρ.length=14->S.length=10->S.all (i0 10)=true->S[g]?=some (.lst ds)->(∀x∈ds,∃d,x = .ref d/\d≠g/\cC d S)->∃ρ' S',iN 10 (.ref g) ds 1 (mf (ag P 12)) l ρ S = .nx ρ' S'
 | [],ρ,S,_,_,_,_,hg,_=>by refine⟨ρ,S,?_⟩;unfold iN;rw[if_pos (show eZ (.ref g) ds S=true from decide_eq_true (bz hg))]
 | x::l,ρ,S,hl,hρ,hS,ho,hg,hD=>by
  obtain⟨d,rfl,hdg,hd⟩:=hD x (hl x List.mem_cons_self);obtain⟨ρ',S',a,b,e,e1,e2,e3⟩:=EU hS hd (ρ:=ρ.set 1 (some (.ref d))) (by rw[List.length_set];exact hρ) (by rw[List.getElem?_set_self (by omega)]);have eR:=hd.lt;have ho':(S.set d (.lst [.int a,.int b])).all (i0 10)=true:=by
   rw[List.all_eq_true] at ho ⊢;intro o hm;rcases List.mem_or_eq_of_mem_set hm with z | z
   .exact ho o z
   .rw[z];rfl
  unfold iN;rw[if_pos (show eZ (.ref g) ds S=true from decide_eq_true (bz hg)),e];dsimp only;rw[e3,if_pos ⟨ho',e2⟩];refine yP g ds l (gk 10 ρ') _ (λy hy=>hl y (List.mem_cons_of_mem _ hy)) (by unfold gk;rw[List.length_map];exact e1) (by rw[List.length_set];exact hS) ho' (by rw[List.getElem?_set_ne hdg];exact hg) λy hy=>?_;obtain⟨d2,rfl,h2,x2,y2,h3⟩:=hD y hy
  by_cases z:d2=d
  .subst z;exact⟨d2,rfl,h2,a,b,dA h3⟩
  .exact⟨d2,rfl,h2,x2,y2,by rw[List.getElem?_set_ne (Ne.symm z)];exact h3⟩
abbrev jR:RF.Env:=[some (.ref 0),none,none,none,none,none,none,none,none,none,none,none,none,none]
theorem Ec (ns:List Int)(hn:ns.length<=63):∃S',(calls P 13).f 25 [.ref 0] [.cq (ns.map D.int)] = .ok (.bl true) S':=by
 have aq:([.cq (ns.map D.int)]:ae).all (i0 10)=true:=by simp only[List.all_cons,List.all_nil,Bool.and_true];show (ns.map D.int).all (kF 10)=true;rw[List.all_eq_true];intro x hx;obtain⟨i,_,rfl⟩:=List.mem_map.mp hx;rfl
 obtain⟨v,S1,e,g,ds,rfl,hg,h0,hl,ho,hD⟩:=vA (Dw 10 ns hn [.cq (ns.map D.int)] rfl rfl aq);have e2:(ag P 13).f 25 [.ref 0] [.cq (ns.map D.int)]=bc (AE (ag P 12) jR [.cq (ns.map D.int)]):=Oe 12 _ _;rw[ar] at e2;rw[e2];have hp:xI 10 S1=some (S1++List.replicate (10-S1.length) (.cq (ns.map D.int))):=by unfold xI;rw[h0];exact if_pos hl
 have hrol:i0 10 (.cq (ns.map D.int))=true:=by simpa using aq
 have fz:(S1++List.replicate (10-S1.length) (O.cq (ns.map D.int))).all (i0 10)=true:=oX ho (by rw[List.all_eq_true];intro o hm;rw[(List.mem_replicate.mp hm).2];exact hrol);have up:∀{i o},S1[i]?=some o->(S1++List.replicate (10-S1.length) (O.cq (ns.map D.int)))[i]?=some o:=λ{i o} h=>by rw[List.getElem?_append_left (aZ h)];exact h
 obtain⟨ρ',S',lp⟩:=yP g ds ds (gk 10 jR) (S1++List.replicate (10-S1.length) (O.cq (ns.map D.int))) (λ_ h=>h) rfl (by simp;omega) fz (up hg) λx hx=>by obtain⟨d,e,h,a,b,q⟩:=hD x hx;exact⟨d,e,h,a,b,up q⟩
 have sq:bX [aa 0,cE (.int 4)] jR [.cq (ns.map D.int)] = .ok [.ref 0,.int 4] [.cq (ns.map D.int)]:=rfl;have er:ao ((ag P 12).f 19) [aa 0,cE (.int 4)] jR [.cq (ns.map D.int)] = .ok (.ref g) S1:=by unfold ao;rw[sq,R.bJ];exact e
 have ef:jG 10 (ao ((ag P 12).f 19) [aa 0,cE (.int 4)]) 1 (mf (ag P 12)) jR [.cq (ns.map D.int)] = .nx ρ' S':=by unfold jG;rw[er];dsimp only[dY];rw[hg,hp];dsimp only;rw[if_pos fz,lp]
 refine⟨S',?_⟩;rw[EB];have:ah [jG jb (ao ((ag P 12).f 19) [(aa 0),(cE (.int 4))]) 1 (mf (ag P 12)),(retS (cE (.bl true)))] jR [.cq (ns.map D.int)] = .rt (.bl true) S':=by show (jG 10 (ao ((ag P 12).f 19) [aa 0,cE (.int 4)]) 1 (mf (ag P 12)) jR [.cq (ns.map D.int)]).then _=_;rw[ef];rfl
 rw[this];rfl
end Q41
end
namespace L2
open PySem
theorem qr {M:Model}{A:Around}{E:Value->Sh->Prop}{α:Type}{s:Sh}{kd:Addr}{part:Option Value}{o:Obj}{F:Obj->Sem α}{Q:α->Sh->Prop}(ho:s.heap.get? kd=some o)(h:wpAny M A (F o) Q E s):wpAny M A (Sem.load kd part F) Q E s:=
 (wpAny_bind (wpAny_loadPart ho h):wpAny M A (loadPart kd part >>= F) Q E s)
theorem rK {s:Sh}{fd:FuncData}{args:Args}{binds:List (Str×Value)}{kd:Addr}{p1 p2:Option Value}{o:Obj}{F1 F2:Obj->Sem (List (Str×Value))}(ho:s.heap.get? kd=some o)(h1:bindArgs fd args = .load kd p1 F1)(h2:F1 o = .load kd p2 F2)(h3:F2 o=pure binds):BindsTo s fd args binds:=λM A E Q hq=>by rw[h1];refine qr ho ?_;rw[h2];refine qr ho ?_;rw[h3];exact wpAny_pure hq
theorem bind1 {s:Sh}{fd:FuncData}{args:Args}{binds:List (Str×Value)}{kd:Addr}{p1:Option Value}{o:Obj}{F1:Obj->Sem (List (Str×Value))}(ho:s.heap.get? kd=some o)(h1:bindArgs fd args = .load kd p1 F1)(h3:F1 o=pure binds):BindsTo s fd args binds:=λM A E Q hq=>by rw[h1];refine qr ho ?_;rw[h3];exact wpAny_pure hq
theorem BO {a b:Str}(qe:a≠b):∀{ks:List Str},(∀k∈ks,k=a\/k=b)->ks.Nodup->ks=[]\/ks=[a]\/ks=[b]\/ks=[a,b]\/ks=[b,a]
 | [],_,_=>.inl rfl
 | [x],h,_=>by
  rcases h x (by simp) with rfl|rfl
  .exact .inr (.inl rfl)
  .exact .inr (.inr (.inl rfl))
 | [x,y],h,n=>by
  rcases h x (by simp) with rfl|rfl<;>rcases h y (by simp) with rfl|rfl
  .simp at n
  .exact .inr (.inr (.inr (.inl rfl)))
  .exact .inr (.inr (.inr (.inr rfl)))
  .simp at n
 | x::y::z::r,h,n=>by have hx:=h x (by simp);have hy:=h y (by simp);have hz:=h z (by simp);simp only[List.nodup_cons,List.mem_cons,not_or] at n;obtain⟨⟨n1,n2,_⟩,⟨n3,_⟩,_⟩:=n;rcases hx with rfl|rfl<;>rcases hy with rfl|rfl<;>rcases hz with rfl|rfl<;>first | exact absurd rfl n1 | exact absurd rfl n2 | exact absurd rfl n3
theorem ow {x:Str}{d:V}{d':Value}(hd:RelV d d'):∀{ks:List Str} {zs:List V} {ws:List Value},Vals zs ws->RelV (((ks.zip zs).lookup x).getD d) (((ks.zip ws).lookup x).getD d')
 | [],_,_,_=>hd
 | _::_,_,_,.nil=>hd
 | k::ks,_,_,.cons r rs=>by
  simp only[List.zip_cons_cons,List.lookup];cases x==k
  .exact ow hd rs
  .exact r
theorem xC:∀{xs:List V} {us:List Value} {ys:List V} {vs:List Value},Vals xs us->Vals ys vs->Vals (xs++ys) (us++vs)
 | _,_,_,_,.nil,h=>h
 | _,_,_,_,.cons r rs,h=>.cons r (xC rs h)
end L2
namespace Q41
open PySem L2
abbrev kwEs (h1 h2:Int)(tr tw ur uw:Tok):Array DictEntry:=#[⟨h1,.str "room" tr,.int 4 ur⟩,⟨h2,.str "wait" tw,.int 6 uw⟩]
theorem EL {K:Fg}{kd:Addr}{okd:Value}{odk an:Option Addr}{h1 h2:Int}{tr tw ur uw:Tok}{ep:Nat}{sl:Array (Option Value)}{dc pm cd ct:Value}(lk:K.lookup kd=some ⟨okd,odk,.dict (kwEs h1 h2 tr tw ur uw) ep,sl⟩):
 jS K P.T 3 "__init__" (W.fnOf "__init__" "House.__init__" (cP (aD (top 42) 0)) (cz (aD (top 42) 0)) (bo (aD (top 42) 0)) .none (.ref kd) dc pm an cd ct) ["self","number","sides","room","wait"]:=by
 have ekw:P.T.dh 3=([("room",.int 4),("wait",.int 6)]:List (Str×RF.D)):=rfl;refine .inl ⟨rfl,by rw[ekw];simp,by rw[ekw];decide,λks hk hn=>?_⟩;rw[ekw] at hk ⊢;have hks:=BO (a:=("room":Str)) (b:=("wait":Str)) (by decide +kernel) (ks:=ks) (λk h=>by have:=List.all_eq_true.mp hk k h;simp only[List.any_cons,List.any_nil,Bool.or_false,Bool.or_eq_true,decide_eq_true_eq] at this;exact this.imp Eq.symm Eq.symm) hn;refine⟨λus ws=>us++[((ks.zip ws).lookup ("room":Str)).getD (.int 4 ur),((ks.zip ws).lookup ("wait":Str)).getD (.int 6 uw)],⟨λs us ws X hl=>?_,λ{vs us zs ws} r rz=>?_⟩⟩
 .have ho:=X _ _ lk
  match us,hl with
  | [a,b,c],_=>
   rcases hks with rfl|rfl|rfl|rfl|rfl
   .exact rK ho rfl rfl rfl
   .match ws with
    | []=>exact rK ho rfl rfl rfl
    | x::_=>exact bind1 ho rfl rfl
   .match ws with
    | []=>exact rK ho rfl rfl rfl
    | x::_=>exact bind1 ho rfl rfl
   .match ws with
    | []=>exact rK ho rfl rfl rfl
    | [x]=>exact bind1 ho rfl rfl
    | x::y::_=>exact .of_eq rfl
   .match ws with
    | []=>exact rK ho rfl rfl rfl
    | [x]=>exact bind1 ho rfl rfl
    | x::y::_=>exact .of_eq rfl
  | [],h=>simp at h
  | [_],h=>simp at h
  | [_,_],h=>simp at h
  | _::_::_::_::_,h=>simp at h
 .exact xC r (.cons (ow (d:=.int 4) (d':=.int 4 ur) ⟨_,rfl⟩ rz) (.cons (ow (d:=.int 6) (d':=.int 6 uw) ⟨_,rfl⟩ rz) .nil))
end Q41
namespace Q41
open PySem L2
abbrev ic (s:Stmt):RF.Fn:=(RF.fnOf s).getD ⟨[],[],bo s,[],false⟩
theorem LC {us:List Value}(h:us.length=1):∃a,us=[a]:=List.length_eq_one_iff.mp h
theorem OW {us:List Value}(h:us.length=2):∃a b,us=[a,b]:=match us,h with
 | [_,_],_=>⟨_,_,rfl⟩
theorem Pp {us:List Value}(h:us.length=3):∃a b c,us=[a,b,c]:=match us,h with
 | [_,_,_],_=>⟨_,_,_,rfl⟩
theorem OQ {us:List Value}(h:us.length=4):∃a b c d,us=[a,b,c,d]:=match us,h with
 | [_,_,_,_],_=>⟨_,_,_,_,rfl⟩
theorem Pf {us:List Value}(h:us.length=5):∃a b c d e,us=[a,b,c,d,e]:=match us,h with
 | [_,_,_,_,_],_=>⟨_,_,_,_,_,rfl⟩
theorem O4 {us:List Value}(h:us.length=7):∃a b c d e f g,us=[a,b,c,d,e,f,g]:=match us,h with
 | [_,_,_,_,_,_,_],_=>⟨_,_,_,_,_,_,_,rfl⟩
theorem f9 {K:Fg}{x q:Str}{st:Stmt}{f:Addr}{fd:FuncData}{ps:List Str}(F:fV K x q st f fd)(hp:ps.length=1)(h:∀kV doc pm an cd ct a,bindArgs (W.fnOf x q (cP st) (cz st) (bo st) .none kV doc pm an cd ct) ⟨[a],[]⟩=pure (ps.zip [a])):Binds K fd ps []:=F.binds λkV doc pm an cd ct us hl=>by obtain⟨a,rfl⟩:=LC (hl.trans hp);exact h kV doc pm an cd ct a
theorem mN {K:Fg}{x q:Str}{st:Stmt}{f:Addr}{fd:FuncData}{ps:List Str}(F:fV K x q st f fd)(hp:ps.length=2)(h:∀kV doc pm an cd ct a b,bindArgs (W.fnOf x q (cP st) (cz st) (bo st) .none kV doc pm an cd ct) ⟨[a,b],[]⟩=pure (ps.zip [a,b])):Binds K fd ps []:=F.binds λkV doc pm an cd ct us hl=>by obtain⟨a,b,rfl⟩:=OW (hl.trans hp);exact h kV doc pm an cd ct a b
theorem rO {K:Fg}{x q:Str}{st:Stmt}{f:Addr}{fd:FuncData}{ps:List Str}(F:fV K x q st f fd)(hp:ps.length=3)(h:∀kV doc pm an cd ct a b c,bindArgs (W.fnOf x q (cP st) (cz st) (bo st) .none kV doc pm an cd ct) ⟨[a,b,c],[]⟩=pure (ps.zip [a,b,c])):Binds K fd ps []:=F.binds λkV doc pm an cd ct us hl=>by obtain⟨a,b,c,rfl⟩:=Pp (hl.trans hp);exact h kV doc pm an cd ct a b c
theorem K1 {K:Fg}{x q:Str}{st:Stmt}{f:Addr}{fd:FuncData}{ps:List Str}(F:fV K x q st f fd)(hp:ps.length=4)(h:∀kV doc pm an cd ct a b c d,bindArgs (W.fnOf x q (cP st) (cz st) (bo st) .none kV doc pm an cd ct) ⟨[a,b,c,d],[]⟩=pure (ps.zip [a,b,c,d])):Binds K fd ps []:=F.binds λkV doc pm an cd ct us hl=>by obtain⟨a,b,c,d,rfl⟩:=OQ (hl.trans hp);exact h kV doc pm an cd ct a b c d
theorem ON {K:Fg}{x q:Str}{st:Stmt}{f:Addr}{fd:FuncData}{ps:List Str}(F:fV K x q st f fd)(hp:ps.length=5)(h:∀kV doc pm an cd ct a b c d e,bindArgs (W.fnOf x q (cP st) (cz st) (bo st) .none kV doc pm an cd ct) ⟨[a,b,c,d,e],[]⟩=pure (ps.zip [a,b,c,d,e])):Binds K fd ps []:=F.binds λkV doc pm an cd ct us hl=>by obtain⟨a,b,c,d,e,rfl⟩:=Pf (hl.trans hp);exact h kV doc pm an cd ct a b c d e
theorem Qc {K:Fg}{x q:Str}{st:Stmt}{f:Addr}{fd:FuncData}{ps:List Str}(F:fV K x q st f fd)(hp:ps.length=7)(h:∀kV doc pm an cd ct a b c d e f g,bindArgs (W.fnOf x q (cP st) (cz st) (bo st) .none kV doc pm an cd ct) ⟨[a,b,c,d,e,f,g],[]⟩=pure (ps.zip [a,b,c,d,e,f,g])):Binds K fd ps []:=F.binds λkV doc pm an cd ct us hl=>by obtain⟨a,b,c,d,e,f,g,rfl⟩:=O4 (hl.trans hp);exact h kV doc pm an cd ct a b c d e f g
abbrev FU (K:Fg)(x:Str)(k:Nat)(f:Addr):Prop:=W.nsIn K mainGlobals x=some (some (.ref f))/\∃fd,fV K x x (top k) f fd
abbrev MU (K:Fg)(C:Addr)(x q:Str)(k j:Nat)(f:Addr):Prop:=W.findIn K (.ref C) x=some (some (.ref f))/\W.isFn K (.ref f)=true/\∃fd,fV K x q (aD (top k) j) f fd
abbrev nj (K:Fg)(C:Addr):List Str->Prop
 | []=>True
 | x::r=>W.findIn K (.ref C) x=some none/\nj K C r
theorem nj.at {K:Fg}{C:Addr}{x:Str}:∀{l:List Str},nj K C l->x∈l->hV K C x
 | [],_,h=>by cases h
 | y::r,f,h=>by
  rcases List.mem_cons.mp h with rfl | h
  .exact f.1
  .exact nj.at f.2 h
def _root_.RF.Tab.free (T:RF.Tab)(c:Nat):List Str:=(T.cJ.zipIdx.filter λp=>T.plain c p.2).map (·.1)
theorem _root_.RF.FG {T:RF.Tab}{c f:Nat}{x:Str}(hp:T.plain c f=true)(hx:T.cJ[f]?=some x):x∈T.free c:=by unfold RF.Tab.free;refine List.mem_map.mpr ⟨(x,f),List.mem_filter.mpr ⟨?_,hp⟩,rfl⟩;exact List.mem_zipIdx_iff_getElem?.mpr hx
theorem IT {a b c d:Nat}(h:(a==b&&c==d)=true):a=b/\c=d:=by simpa using h
theorem da {K:Fg}{W:bw}{c m k j:Nat}{x q:Str}{f:Addr}(M:MU K (W.c c) x q k j f)(b:∀fd,fV K x q (aD (top k) j) f fd->Binds K fd (ic (aD (top k) j)).ps [])(h7:gH K (W.c c))(h1:(P.ms.find? λy=>y.1==c&&y.2.1==m)=some (c,m,aD (top k) j):=by rfl)(h2:RF.fnOf (aD (top k) j)=some (ic (aD (top k) j)):=by rfl)(h3:(ki (ic (aD (top k) j)) && !decide (x = "__init__"))=true:=by decide +kernel):A5 K W P c m x:=by
 obtain⟨a,i,fd,F⟩:=M;have h3:=Bool.and_eq_true_iff.mp h3;have hn:x ≠ "__init__":=by simpa using h3.2
 exact lz F h1 h2 h3.1 ⟨a,i,F.kp⟩ (.inr ⟨λz=>absurd z hn,b fd F⟩) (λz=>absurd z hn) h7
theorem cM {K:Fg}{h:Heap}{mg:Str->Option Value}{i k:Nat}{x:Str}{f:Addr}(X:K.In h)(G:h.Ns mainGlobals mg)(M:FU K x k f)(b:∀fd,fV K x x (top k) f fd->Binds K fd (ic (top k)).ps [])(h1:P.fs[i]?=some (top k):=by rfl)(h2:RF.fnOf (top k)=some (ic (top k)):=by rfl)(h3:ki (ic (top k))=true:=by decide +kernel):AK K mg P x i:=by obtain⟨a,fd,F⟩:=M;exact za F h1 h2 h3 (W.mg_of X G a) (b fd F)
theorem all_mk {l:W.OpenLaw}{w:World}{K:Fg}{h:Heap}{mg:Str->Option Value}{fa C0 C1 C2 C3 fu0 fu1 fu2 fu3 fu4 fu5 fu6 fu7 fu8 fu9 fu10 fu11 fu12 fu13 fu14 fu15 fu16 fu17 fu18 fu19 fu20 fu21 fu22 fu23 fu24 GD fm0_0 fm0_1 fm0_2 fm0_4 fm0_5 fm1_0 fm1_1 fm1_3 fm1_4 fm1_5 fm1_8 fm2_0 fm3_0 fm3_1 fm3_2 fm3_6 fm3_8 fm3_9 fm3_10 fm3_14 fm3_15 fm3_16 fm3_17 fm3_18 fm3_19 fm3_20 Nr:Addr}(X:K.In h)(G:h.Ns mainGlobals mg)(hfa:mg "law" = some (.ref fa))
 {OG HG odm3_0 anm3_0  odk3:Option Addr} {OH slm3_0  slk3:Array (Option Value)}
 {OI HH HI HJ BJ HK ocm3_0 dcm3_0 pmm3_0 ctm3_0 cdm3_0 okd3:Value} {t0 t1 t2 t3 t4 t5 t6 t7 tkr3 tkw3 ukr3 ukw3:Tok} { epk3:Nat} {hh1_3 hh2_3:Int}
 (aC0:W.nsIn K mainGlobals "Keeps" = some (some (.ref C0)))
 (aC1:W.nsIn K mainGlobals "Table" = some (some (.ref C1)))
 (aC2:W.nsIn K mainGlobals "Wait" = some (some (.ref C2)))
 (aC3:W.nsIn K mainGlobals "House" = some (some (.ref C3)))
 (u0:FU K "is_whole" 12 fu0)
 (u1:FU K "is_within" 13 fu1)
 (u2:FU K "is_value" 14 fu2)
 (u3:FU K "is_side" 15 fu3)
 (u4:FU K "is_tick" 16 fu4)
 (u5:FU K "is_sides" 17 fu5)
 (u6:FU K "need_within" 18 fu6)
 (u7:FU K "need_value" 19 fu7)
 (u8:FU K "need_tick" 21 fu8)
 (u9:FU K "need_sides" 22 fu9)
 (u10:FU K "is_part" 27 fu10)
 (u11:FU K "is_name" 28 fu11)
 (u12:FU K "is_beginning" 29 fu12)
 (u13:FU K "need_name" 30 fu13)
 (u14:FU K "need_beginning" 31 fu14)
 (u15:FU K "is_letter" 40 fu15)
 (u16:FU K "_law_cell" 44 fu16)
 (u17:FU K "_law_drawn" 45 fu17)
 (u18:FU K "_law_roll" 46 fu18)
 (u19:FU K "_law_rounds" 47 fu19)
 (u20:FU K "_law_head" 48 fu20)
 (u21:FU K "_law_any_name" 49 fu21)
 (u22:FU K "_law_some_sides" 50 fu22)
 (u23:FU K "_law_thing_comes" 51 fu23)
 (u24:FU K "_law_noes_come" 52 fu24)
 (Nt:W.nsIn K mainGlobals "law" = some (some (.ref GD)))
 (lu25:K.lookup GD=some ⟨OI,OG,.func (W.fnOf "law" "law" (cP (top 53)) (cz (top 53)) (bo (top 53)) .none HK HH HI HG BJ HJ),OH⟩)
 (OJ:W.codeIn K BJ "law" = true)
 (ku25:W.keepIn K (.ref GD)=true)
 (m0_0:MU K C0 "__init__" "Keeps.__init__" 34 0 fm0_0)
 (m0_1:MU K C0 "put" "Keeps.put" 34 1 fm0_1)
 (m0_2:MU K C0 "got" "Keeps.got" 34 2 fm0_2)
 (m0_4:MU K C0 "rows" "Keeps.rows" 34 4 fm0_4)
 (m0_5:MU K C0 "__len__" "Keeps.__len__" 34 5 fm0_5)
 (m1_0:MU K C1 "__init__" "Table.__init__" 36 0 fm1_0)
 (m1_1:MU K C1 "put" "Table.put" 36 1 fm1_1)
 (m1_3:MU K C1 "way" "Table.way" 36 3 fm1_3)
 (m1_4:MU K C1 "sides" "Table.sides" 36 4 fm1_4)
 (m1_5:MU K C1 "rows" "Table.rows" 36 5 fm1_5)
 (m1_8:MU K C1 "__len__" "Table.__len__" 36 8 fm1_8)
 (m2_0:MU K C2 "__init__" "Wait.__init__" 41 0 fm2_0)
 (am3_0:W.findIn K (.ref C3) "__init__" = some (some (.ref fm3_0)))
 (im3_0:W.isFn K (.ref fm3_0)=true)
 (lm3_0:K.lookup fm3_0=some ⟨ocm3_0,odm3_0,.func (W.fnOf "__init__" "House.__init__" (cP (aD (top 42) 0)) (cz (aD (top 42) 0)) (bo (aD (top 42) 0)) .none (.ref Nr) dcm3_0 pmm3_0 anm3_0 cdm3_0 ctm3_0),slm3_0⟩)
 (lkd3:K.lookup Nr=some ⟨okd3,odk3,.dict (kwEs hh1_3 hh2_3 tkr3 tkw3 ukr3 ukw3) epk3,slk3⟩)
 (cm3_0d:W.codeIn K cdm3_0 "House.__init__" = true)
 (km3_0:W.keepIn K (.ref fm3_0)=true)
 (m3_1:MU K C3 "ask" "House.ask" 42 1 fm3_1)
 (m3_2:MU K C3 "come" "House.come" 42 2 fm3_2)
 (m3_6:MU K C3 "teach" "House.teach" 42 6 fm3_6)
 (m3_8:MU K C3 "end" "House.end" 42 8 fm3_8)
 (m3_9:MU K C3 "waits" "House.waits" 42 9 fm3_9)
 (m3_10:MU K C3 "keeps" "House.keeps" 42 10 fm3_10)
 (m3_14:MU K C3 "toward" "House.toward" 42 14 fm3_14)
 (m3_15:MU K C3 "found" "House.found" 42 15 fm3_15)
 (m3_16:MU K C3 "answered" "House.answered" 42 16 fm3_16)
 (m3_17:MU K C3 "told_thing" "House.told_thing" 42 17 fm3_17)
 (m3_18:MU K C3 "told_no" "House.told_no" 42 18 fm3_18)
 (m3_19:MU K C3 "ended" "House.ended" 42 19 fm3_19)
 (m3_20:MU K C3 "told" "House.told" 42 20 fm3_20)
 (pg0:W.plainGet K C0 Str.empty=true)
 (hd0:W.hasDictIn K C0=true)
 (po0:W.plainOver K C0=true)
 (sa0:W.findIn K (.ref C0) "__setattr__" = some (some (.builtin "object.__setattr__")))
 (mk0:W.makesIn K C0=true)
 (kc0:W.keepIn K (.ref C0)=true)
 (fr0:nj K C0 ("answered" :: "append" :: "ask" :: "asked" :: "askers" :: "beside" :: "come" :: "count" :: "end" :: "ended" :: "ends" :: "extend" :: "found" :: "get" :: "heard" :: "held" :: "insert" :: "keeps" :: "kept" :: "learned" :: "noes" :: "number" :: "patience" :: "pop" :: "remove" :: "room" :: "sides" :: "since" :: "store" :: "teach" :: "things" :: "told" :: "told_no" :: "told_thing" :: "toward" :: "waiting" :: "waits" :: "way" :: []))
 (pg1:W.plainGet K C1 Str.empty=true)
 (jo:W.hasDictIn K C1=true)
 (po1:W.plainOver K C1=true)
 (sa1:W.findIn K (.ref C1) "__setattr__" = some (some (.builtin "object.__setattr__")))
 (mk1:W.makesIn K C1=true)
 (kc1:W.keepIn K (.ref C1)=true)
 (fr1:nj K C1 ("answered" :: "append" :: "ask" :: "asked" :: "askers" :: "beside" :: "come" :: "count" :: "end" :: "ended" :: "ends" :: "extend" :: "found" :: "get" :: "got" :: "heard" :: "held" :: "insert" :: "keeps" :: "kept" :: "learned" :: "noes" :: "number" :: "patience" :: "pop" :: "remove" :: "room" :: "since" :: "store" :: "teach" :: "things" :: "told" :: "told_no" :: "told_thing" :: "toward" :: "waiting" :: "waits" :: []))
 (pg2:W.plainGet K C2 Str.empty=true)
 (hd2:W.hasDictIn K C2=true)
 (po2:W.plainOver K C2=true)
 (sa2:W.findIn K (.ref C2) "__setattr__" = some (some (.builtin "object.__setattr__")))
 (mk2:W.makesIn K C2=true)
 (kc2:W.keepIn K (.ref C2)=true)
 (D9:nj K C2 ("__len__" :: "answered" :: "append" :: "ask" :: "asked" :: "askers" :: "beside" :: "come" :: "count" :: "end" :: "ended" :: "ends" :: "extend" :: "found" :: "get" :: "got" :: "heard" :: "held" :: "insert" :: "keeps" :: "kept" :: "learned" :: "noes" :: "number" :: "patience" :: "pop" :: "put" :: "remove" :: "room" :: "rows" :: "sides" :: "since" :: "store" :: "teach" :: "things" :: "told" :: "told_no" :: "told_thing" :: "toward" :: "waiting" :: "waits" :: "way" :: []))
 (pg3:W.plainGet K C3 Str.empty=true)
 (jz:W.hasDictIn K C3=true)
 (po3:W.plainOver K C3=true)
 (sa3:W.findIn K (.ref C3) "__setattr__" = some (some (.builtin "object.__setattr__")))
 (mk3:W.makesIn K C3=true)
 (kc3:W.keepIn K (.ref C3)=true)
 (mV:nj K C3 ("__len__" :: "append" :: "asked" :: "askers" :: "beside" :: "count" :: "ends" :: "extend" :: "get" :: "got" :: "heard" :: "held" :: "insert" :: "kept" :: "learned" :: "noes" :: "number" :: "patience" :: "pop" :: "put" :: "remove" :: "room" :: "rows" :: "sides" :: "since" :: "store" :: "things" :: "waiting" :: "way" :: []))
 (gc0:W.nsIn K mainGlobals "VALUE_MOST" = some (some (.int 999 t0)))
 (gc1:W.nsIn K mainGlobals "SIDE_MOST" = some (some (.int 7 t1)))
 (gc2:W.nsIn K mainGlobals "SIGNS" = some (some (.str "abcdefghijklmnopqrstuvwxyz0123456789" t2)))
 (gc3:W.nsIn K mainGlobals "PART_LONGEST" = some (some (.int 4 t3)))
 (gc4:W.nsIn K mainGlobals "NAME_LONGEST" = some (some (.int 5 t4)))
 (gc5:W.nsIn K mainGlobals "ROOM_MOST" = some (some (.int 9 t5)))
 (gc6:W.nsIn K mainGlobals "WAIT_LEAST" = some (some (.int 1 t6)))
 (gc7:W.nsIn K mainGlobals "WAIT_MOST" = some (some (.int 20 t7)))
 (zn0:W.nsIn K mainGlobals "isinstance" = some none)
 (zn1:W.nsIn K mainGlobals "int" = some none)
 (zn2:W.nsIn K mainGlobals "bool" = some none)
 (zn3:W.nsIn K mainGlobals "str" = some none)
 (zn4:W.nsIn K mainGlobals "tuple" = some none)
 (zn5:W.nsIn K mainGlobals "list" = some none)
 (zn6:W.nsIn K mainGlobals "len" = some none)
 (zn7:W.nsIn K mainGlobals "all" = some none)
 (zn8:W.nsIn K mainGlobals "max" = some none)
 (zn9:W.nsIn K mainGlobals "min" = some none)
 (zn10:W.nsIn K mainGlobals "range" = some none)
 (zn11:W.nsIn K mainGlobals "set" = some none):
 ∃fd:FuncData,(∀(s:Sh) (v:Value),BindsTo s fd ⟨[v],[]⟩ [("_law_script",v)])/\∀base:Heap,K.In base->base.Ns mainGlobals mg->qD mg base->dE l.prog w K mg base (lH l.prog w) (4*12+4) fa fd ["_law_script"] (vv K P.T [] ((RF.calls P (12+1)).f 25)):=by
 have e:=hfa.symm.trans (W.mg_of X G Nt);cases e;have GF:=rP (st:=top 53) lu25 OJ ku25;have Fm3_0:=rP (st:=aD (top 42) 0) lm3_0 cm3_0d km3_0;have bm3_0:=EL (an:=anm3_0) (dc:=dcm3_0) (pm:=pmm3_0) (cd:=cdm3_0) (ct:=ctm3_0) lkd3;have bl:=GF.binds (ps:=["_law_script"]) λ_ _ _ _ _ _ us hl=>by obtain⟨_,rfl⟩:=LC hl;rfl
 have Ac:gH K C0:=⟨pg0,hd0,po0,sa0⟩;have ym:gH K C1:=⟨pg1,jo,po1,sa1⟩;have CL2:gH K C2:=⟨pg2,hd2,po2,sa2⟩;have kr:gH K C3:=⟨pg3,jz,po3,sa3⟩;refine⟨W.fnOf "law" "law" (cP (top 53)) (cz (top 53)) (bo (top 53)) .none HK HH HI HG BJ HJ,λs v=>.of_eq rfl,λbase _ _ BM=>?_⟩;have GG:Bv l.prog w K mg base ⟨P.T,λc=>[C0,C1,C2,C3].getD c 0,λc=>[].getD c 0,[],dw l.prog w⟩ P:=by
  refine⟨rfl,λx d hx=>?_,λx i hx=>?_,λx c hx=>?_,λc hc=>?_,λc f x hc hp hx=>?_,λc m x hM hx=>?_,λx hx=>?_,rfl⟩
  .obtain⟨p,hp,e1,e2⟩:=lookup_mem hx;subst e1 e2;simp only[P,T,List.mem_cons,List.not_mem_nil,or_false] at hp;rcases hp with rfl|rfl|rfl|rfl|rfl|rfl|rfl|rfl
   .exact⟨_,V.int 999,W.mg_of X G gc0,⟨_,rfl⟩,λ_ _=>.int _⟩
   .exact⟨_,V.int 7,W.mg_of X G gc1,⟨_,rfl⟩,λ_ _=>.int _⟩
   .exact⟨_,V.str "abcdefghijklmnopqrstuvwxyz0123456789",W.mg_of X G gc2,⟨_,rfl⟩,λ_ _=>.str _⟩
   .exact⟨_,V.int 4,W.mg_of X G gc3,⟨_,rfl⟩,λ_ _=>.int _⟩
   .exact⟨_,V.int 5,W.mg_of X G gc4,⟨_,rfl⟩,λ_ _=>.int _⟩
   .exact⟨_,V.int 9,W.mg_of X G gc5,⟨_,rfl⟩,λ_ _=>.int _⟩
   .exact⟨_,V.int 1,W.mg_of X G gc6,⟨_,rfl⟩,λ_ _=>.int _⟩
   .exact⟨_,V.int 20,W.mg_of X G gc7,⟨_,rfl⟩,λ_ _=>.int _⟩
  .have hx:=cG hx;show AK K mg P x i
   match i,hx with
   | 0,hx=>cases hx;exact cM X G u0 (λ_ F=>f9 F rfl (by intros;rfl))
   | 1,hx=>cases hx;exact cM X G u1 (λ_ F=>rO F rfl (by intros;rfl))
   | 2,hx=>cases hx;exact cM X G u2 (λ_ F=>f9 F rfl (by intros;rfl))
   | 3,hx=>cases hx;exact cM X G u3 (λ_ F=>f9 F rfl (by intros;rfl))
   | 4,hx=>cases hx;exact cM X G u4 (λ_ F=>f9 F rfl (by intros;rfl))
   | 5,hx=>cases hx;exact cM X G u5 (λ_ F=>f9 F rfl (by intros;rfl))
   | 6,hx=>cases hx;exact cM X G u6 (λ_ F=>rO F rfl (by intros;rfl))
   | 7,hx=>cases hx;exact cM X G u7 (λ_ F=>f9 F rfl (by intros;rfl))
   | 8,hx=>cases hx;exact cM X G u8 (λ_ F=>f9 F rfl (by intros;rfl))
   | 9,hx=>cases hx;exact cM X G u9 (λ_ F=>f9 F rfl (by intros;rfl))
   | 10,hx=>cases hx;exact cM X G u10 (λ_ F=>f9 F rfl (by intros;rfl))
   | 11,hx=>cases hx;exact cM X G u11 (λ_ F=>f9 F rfl (by intros;rfl))
   | 12,hx=>cases hx;exact cM X G u12 (λ_ F=>f9 F rfl (by intros;rfl))
   | 13,hx=>cases hx;exact cM X G u13 (λ_ F=>f9 F rfl (by intros;rfl))
   | 14,hx=>cases hx;exact cM X G u14 (λ_ F=>f9 F rfl (by intros;rfl))
   | 15,hx=>cases hx;exact cM X G u15 (λ_ F=>f9 F rfl (by intros;rfl))
   | 16,hx=>cases hx;exact cM X G u16 (λ_ F=>mN F rfl (by intros;rfl))
   | 17,hx=>cases hx;exact cM X G u17 (λ_ F=>mN F rfl (by intros;rfl))
   | 18,hx=>cases hx;exact cM X G u18 (λ_ F=>mN F rfl (by intros;rfl))
   | 19,hx=>cases hx;exact cM X G u19 (λ_ F=>mN F rfl (by intros;rfl))
   | 20,hx=>cases hx;exact cM X G u20 (λ_ F=>f9 F rfl (by intros;rfl))
   | 21,hx=>cases hx;exact cM X G u21 (λ_ F=>f9 F rfl (by intros;rfl))
   | 22,hx=>cases hx;exact cM X G u22 (λ_ F=>mN F rfl (by intros;rfl))
   | 23,hx=>cases hx;exact cM X G u23 (λ_ F=>Qc F rfl (by intros;rfl))
   | 24,hx=>cases hx;exact cM X G u24 (λ_ F=>ON F rfl (by intros;rfl))
   | 25,hx=>cases hx;exact za (g:=ic (top 53)) GF rfl rfl (by decide +kernel) (W.mg_of X G Nt) bl
   | i+26,hx=>exact absurd hx (by simp[P,T])
  .have hx:=cG hx
   match c,hx with
   | 0,hx=>cases hx;exact W.mg_of X G aC0
   | 1,hx=>cases hx;exact W.mg_of X G aC1
   | 2,hx=>cases hx;exact W.mg_of X G aC2
   | 3,hx=>cases hx;exact W.mg_of X G aC3
   | c+4,hx=>exact absurd hx (by simp[P,T])
  .match c,hc with
   | 0,_=>exact Ac
   | 1,_=>exact ym
   | 2,_=>exact CL2
   | 3,_=>exact kr
   | c+4,hc=>exact absurd hc (by simp[P,T])
  .have hm:=RF.FG hp hx
   match c,hc with
   | 0,_=>exact fr0.at hm
   | 1,_=>exact fr1.at hm
   | 2,_=>exact D9.at hm
   | 3,_=>exact mV.at hm
   | c+4,hc=>exact absurd hc (by simp[P,T])
  .show A5 K _ P c m x;obtain⟨p,hp,e⟩:=List.any_eq_true.mp hM;obtain⟨e1,e2⟩:=IT e;subst e1 e2;simp only[P,T,List.mem_cons,List.not_mem_nil,or_false] at hp;rcases hp with rfl|rfl|rfl|rfl|rfl|rfl|rfl|rfl|rfl|rfl|rfl|rfl|rfl|rfl|rfl|rfl|rfl|rfl|rfl|rfl|rfl|rfl|rfl|rfl|rfl|rfl<;>cases hx
   .obtain⟨am0_0,im0_0,_,Fm0_0⟩:=m0_0;exact lz (g:=ic (aD (top 34) 0)) Fm0_0 rfl rfl (by decide +kernel) ⟨am0_0,im0_0,Fm0_0.kp⟩ (.inr ⟨λ_=>rfl,(mN Fm0_0 rfl (by intros;rfl))⟩) (λ_=>⟨mk0,am0_0,im0_0,kc0⟩) Ac
   .exact da m0_1 (λ_ F=>ON F rfl (by intros;rfl)) Ac
   .exact da m0_2 (λ_ F=>rO F rfl (by intros;rfl)) Ac
   .exact da m0_4 (λ_ F=>f9 F rfl (by intros;rfl)) Ac
   .exact da m0_5 (λ_ F=>f9 F rfl (by intros;rfl)) Ac
   .obtain⟨am1_0,im1_0,_,Fm1_0⟩:=m1_0;exact lz (g:=ic (aD (top 36) 0)) Fm1_0 rfl rfl (by decide +kernel) ⟨am1_0,im1_0,Fm1_0.kp⟩ (.inr ⟨λ_=>rfl,(f9 Fm1_0 rfl (by intros;rfl))⟩) (λ_=>⟨mk1,am1_0,im1_0,kc1⟩) ym
   .exact da m1_1 (λ_ F=>rO F rfl (by intros;rfl)) ym
   .exact da m1_3 (λ_ F=>mN F rfl (by intros;rfl)) ym
   .exact da m1_4 (λ_ F=>mN F rfl (by intros;rfl)) ym
   .exact da m1_5 (λ_ F=>f9 F rfl (by intros;rfl)) ym
   .exact da m1_8 (λ_ F=>f9 F rfl (by intros;rfl)) ym
   .obtain⟨am2_0,im2_0,_,Fm2_0⟩:=m2_0;exact lz (g:=ic (aD (top 41) 0)) Fm2_0 rfl rfl (by decide +kernel) ⟨am2_0,im2_0,Fm2_0.kp⟩ (.inr ⟨λ_=>rfl,(mN Fm2_0 rfl (by intros;rfl))⟩) (λ_=>⟨mk2,am2_0,im2_0,kc2⟩) CL2
   .exact lz (g:=ic (aD (top 42) 0)) Fm3_0 rfl rfl (by decide +kernel) ⟨am3_0,im3_0,Fm3_0.kp⟩ bm3_0 (λ_=>⟨mk3,am3_0,im3_0,kc3⟩) kr
   .exact da m3_1 (λ_ F=>rO F rfl (by intros;rfl)) kr
   .exact da m3_2 (λ_ F=>K1 F rfl (by intros;rfl)) kr
   .exact da m3_6 (λ_ F=>rO F rfl (by intros;rfl)) kr
   .exact da m3_8 (λ_ F=>mN F rfl (by intros;rfl)) kr
   .exact da m3_9 (λ_ F=>f9 F rfl (by intros;rfl)) kr
   .exact da m3_10 (λ_ F=>f9 F rfl (by intros;rfl)) kr
   .exact da m3_14 (λ_ F=>mN F rfl (by intros;rfl)) kr
   .exact da m3_15 (λ_ F=>rO F rfl (by intros;rfl)) kr
   .exact da m3_16 (λ_ F=>K1 F rfl (by intros;rfl)) kr
   .exact da m3_17 (λ_ F=>K1 F rfl (by intros;rfl)) kr
   .exact da m3_18 (λ_ F=>rO F rfl (by intros;rfl)) kr
   .exact da m3_19 (λ_ F=>mN F rfl (by intros;rfl)) kr
   .exact da m3_20 (λ_ F=>rO F rfl (by intros;rfl)) kr
  .simp only[cD,List.mem_cons,List.not_mem_nil,or_false] at hx;rcases hx with rfl|rfl|rfl|rfl|rfl|rfl|rfl|rfl|rfl|rfl|rfl|rfl
   .exact W.mg_none_of X G zn0
   .exact W.mg_none_of X G zn1
   .exact W.mg_none_of X G zn2
   .exact W.mg_none_of X G zn3
   .exact W.mg_none_of X G zn4
   .exact W.mg_none_of X G zn5
   .exact W.mg_none_of X G zn6
   .exact W.mg_none_of X G zn7
   .exact W.mg_none_of X G zn8
   .exact W.mg_none_of X G zn9
   .exact W.mg_none_of X G zn10
   .exact W.mg_none_of X G zn11
 exact MS (g:=ic (top 53)) GG GF rfl rfl (by decide +kernel) rfl
theorem nd:P.T.cJ.Nodup:=ml (by decide +kernel)
theorem walk {l:PySem.W.OpenLaw}{q:Program}{loose:List Str}{XP:(Str->Option Value)->Heap->Prop}{YP:World->Heap->Prop}{d:DefRec}{K:Params->Fg}(hn:l.most=some 63)(DT:d.params.defaults=[])
 (hY:∀(w:World) (h:Heap),YP w h->(K w.params).In h)
 (F:∀(w:World) (mg:Str->Option Value) (fa:Addr) (h:Heap),(K w.params).In h->h.Ns mainGlobals mg->mg d.name=some (.ref fa) ->
   ∃fd:FuncData,(∀(s:Sh) (u:Value),BindsTo s fd ⟨[u],[]⟩ [("_law_script",u)])/\∀base:Heap,(K w.params).In base->base.Ns mainGlobals mg->qD mg base->dE l.prog w (K w.params) mg base (lH l.prog w) (4*12+4) fa fd ["_law_script"] (vv (K w.params) P.T [] ((RF.calls P (12+1)).f 25))):
 PySem.W.WalkO q loose XP YP l.row.toRowW d [] (λf vs=>PySem.call f vs):=
 L2.Gd (n:=63) (k:=4*12+4) (x:="_law_script") (CX:=λw=>lH l.prog w) (sp:=λw=>vv (K w.params) P.T [] ((RF.calls P (12+1)).f 25)) [] hn (by decide) DT ⟨rfl,by decide,by decide⟩ hY
  (λw h Y X P hP=>by cases hP) (λw P hP=>by cases hP) F
  (λ_ _ a ns hl hP hS=>⟨rfl,λW hW hb=>by obtain⟨S',e⟩:=Ec ns hl;exact LX (by rw[hW];exact nd) (by rw[hb];intro p hp;cases hp) e hS⟩) λ_ _ _ _ _ ⟨_,_,_,_,_,_,_,_,_,_,_,_,_,_,_,_,_,_,_,h⟩=>h
end Q41
section
open PySem PySem.W PyProof.Rows
local macro_rules
 | `(tactic| rfl')=>`(tactic| first | k_is | rfl | (refine' ⟨?a,_,L2.rP ?l ?c ?k⟩;(case a=>k_is);(case l=>k_is);(case c=>k_is);(case k=>k_is)) | (refine' ⟨?a,?i,_,L2.rP ?l ?c ?k⟩;(case a=>k_is);(case i=>k_is);(case l=>k_is);(case c=>k_is);(case k=>k_is)) | (repeat (first | exact trivial | refine⟨by k_is,?_⟩ | refine⟨⟨by k_is,rfl⟩,?_⟩)))
set_option maxRecDepth 100000 in
set_option maxHeartbeats 0 in
theorem PySem.Challenge.cw_namewants_k41_whole_joined_asks_holds : PySem.Challenge.rw_namewants_k41_whole_joined_asks.Holds := by
 w_on;o_law
 refine holds_open (N:=12000) (q:=Q41.vw) (loose:=["House"]) (Xt:=λs=>PySem.W.xlAt Q41.vw [] s&&PySem.W.recOk (PySem.W.RowW.records (PySem.W.OpenRow.toRowW (PySem.W.OpenLaw.row PySem.Challenge.rw_namewants_k41_whole_joined_asks))) s)
  (XP:=XL Q41.vw []) (Yf:=Hook.obs (kmHook Q41.Kf Q41.Hk (λ_=>by kernel_rfl) []))
  (Ya:=Hook.val (kmHook Q41.Kf Q41.Hk (λ_=>by kernel_rfl) []))
  (YP:=Hook.says (kmHook Q41.Kf Q41.Hk (λ_=>by kernel_rfl) [])) ?hl (Hook.of _) (Hook.keeps _)
  (λs e=>xl_of s (Bool.and_eq_true_iff.mp e).1)
  XL.keeps (by rfl) (by rfl) (by rfl)
  (λs e=>recFacts_of (Bool.and_eq_true_iff.mp e).2)
  (by rfl) (by assumption) (by decide +kernel)
  ⟨rfl,rfl,rfl,rfl,rfl,by decide +kernel⟩ ?hw ?hc
 (case hl=>exact TreeRun.FI (by kernel_rfl) rfl (λ_=>rfl) (List.take_append_drop 34 _) (by decide) Q41.Pa Q41.Pc Q41.OZ Q41.JL Q41.ER Q41.JW)
 (case hw=>w_witness2)
 k_fill
 refine Q41.walk (l:=PySem.Challenge.rw_namewants_k41_whole_joined_asks) rfl rfl (λw h Y=>PySem.W.km_in_of Y) ?F
 case F=>
  intro w mg fa h KX G DU;apply Q41.all_mk KX G DU
  all_goals try rfl'
#print axioms PySem.Challenge.cw_namewants_k41_whole_joined_asks_holds
end
