import PyProof.Rows.All
import Wide.All
import OpenK.AllK
import Wide.FinOn
import Lean
import PyProof.EqAt
import PyProof.EqKinds
import PyProof.TupleCall
import PyProof.NeKinds
import PyProof.ConsumeWalk
import KE.IntBitsLaws
import PyProof.DictWalks
import PyProof.DictRoadsH
import KE.KDictList
import PyProof.RaisesMany
import PyProof.StationsW
import PyProof.ExcClass2
import PyProof.RulesTry
import PyProof.ExcBaseAll.ValueError
import PyProof.Rows.FStr
import KE.KLam
import KE.KNestM
import PyProof.Seq
import PyProof.Walks
import PyProof.SumWalkG
import PyProof.FactsTree
import PyProof.CodeObj
import PyProof.WalkInts
import KE.KIsNot
import OpenK.KDescr
import OpenK.KCls
import PyProof.ExcAttrAll.ValueError
import KE.KIsAll
import PyProof.RulesAs
import PyProof.DictCompW
import PyProof.Rows.SumGenD
import KE.KNest
import PyProof.Rows.SetFrom
import PyProof.SetRoads
import PyProof.Rows.SortShell
import KE.KDictSum
import PyProof.ListMulRoad
import PySem.Sem
import PySem.Builtin.Str.Common
import PySem.Eval
import PyProof.InstStoreFacts
import PyProof.ExcArgsOwn
import PyProof.ExcInit
import PySem.Challenge.RW_namewants_k42_whole_ends
import PyProof.TableCode
set_option Elab.async false
set_option linter.all false
set_option maxRecDepth 100000
set_option maxHeartbeats 4000000
noncomputable section
abbrev Fg:=PySem.W.Frag
abbrev Sh:=PySem.Shared
section
open PySem PySem.W PyProof.Rows
namespace TreeRun
def Cb (tb:String->Option Builtin)(p:Program)(w:World)(m:Nat)(ann:Option Value):Nat->SharedT->Thread->Option SharedT
 | 0,_,_=>none
 | k+1,s,t=>match through t,stepOk m ann t with
  | true,_=>some s
  | false,false=>none
  | false,true=>match stepT (denote tb) p w s t with
   | none=>none
   | some (s2,t2)=>Cb tb p w m ann k s2 t2
theorem wK {tb:String->Option Builtin}{p:Program}{w:World}{m:Nat}{ann:Option Value}:∀{k:Nat} {s s':SharedT} {t:Thread},Cb tb p w m ann k s t=some s'->topRun tb p w m ann k s.abs t=some s'.abs
 | 0,_,_,_,h=>by cases h
 | k+1,s,s',t,h=>by
  unfold Cb at h;unfold topRun;cases h1:through t with
  | true=>rw[h1] at h;cases h;rfl
  | false=>
   cases h2:stepOk m ann t with
   | false=>rw[h1,h2] at h;cases h
   | true=>
    rw[h1,h2] at h;dsimp only at h ⊢;cases h3:stepT (denote tb) p w s t with
    | none=>rw[h3] at h;cases h
    | some r=>obtain⟨s2,t2⟩:=r;rw[h3] at h;rw[stepT_spec h3];exact wK h
def Aw:Nat->BT->List Obj->BT
 | _,t,[]=>t
 | n,t,o::os=>Aw (n+1) (t.ins n o) os
def sT (P:Params)(os:OsState):SharedT:=⟨Aw 0 .nil (boot_heap P).objs.toList,(boot_heap P).objs.toList.length,(boot_heap P).life,#[],boot_drawn,boot_toks,os⟩
theorem JU (P:Params)(os:OsState):(sT P os).abs=⟨boot_heap P,#[],boot_drawn,boot_toks,os⟩:=by kernel_rfl
def ends (p:Program)(w:World)(os:OsState)(N:Nat):Option SharedT:=Cb treeTable p w (boot_heap w.params).objs.size ((boot_heap w.params).nsMap mainGlobals "__annotations__") N (sT w.params os) (topStub p)
theorem Il (P:Params):((boot_heap P).isNs mainGlobals&&(#[]:Array GenState).size==0)=true:=by kernel_rfl
def fit (p:Program)(P:Params)(s:SharedT):Bool:=staticsOk (importedModules p.main.body) (boot_heap P) s.abs.heap&&namesBound p s.abs.heap&&gensDone s.abs&&laidKept (boot_heap P) s.abs.heap
end TreeRun
end
section
open PySem PySem.W PyProof.Rows PySem.Calls
namespace TreeRun
def goN (tb:String->Option Builtin)(p:Program)(w:World)(m:Nat)(ann:Option Value):Nat->SharedT->Thread->Option (SharedT×Thread)
 | 0,s,t=>some (s,t)
 | k+1,s,t=>match through t,stepOk m ann t with
  | true,_=>none
  | false,false=>none
  | false,true=>match stepT (denote tb) p w s t with
   | none=>none
   | some (s2,t2)=>goN tb p w m ann k s2 t2
theorem wO {tb:String->Option Builtin}{p:Program}{w:World}{m:Nat}{ann:Option Value}:∀{k:Nat} {s s':SharedT} {t t':Thread},goN tb p w m ann k s t=some (s',t')->topGo tb p w m ann k s.abs t=some (s'.abs,t')
 | 0,_,_,_,_,h=>by cases h;rfl
 | k+1,s,s',t,t',h=>by
  unfold goN at h;unfold topGo;cases h1:through t with
  | true=>rw[h1] at h;cases h
  | false=>
   cases h2:stepOk m ann t with
   | false=>rw[h1,h2] at h;cases h
   | true=>
    rw[h1,h2] at h;dsimp only at h ⊢;cases h3:stepT (denote tb) p w s t with
    | none=>rw[h3] at h;cases h
    | some r=>obtain⟨s2,t2⟩:=r;rw[h3] at h;rw[stepT_spec h3];exact wO h
abbrev m0 (w:World):Nat:=(boot_heap w.params).objs.size
abbrev t8 (w:World):Option Value:=(boot_heap w.params).nsMap mainGlobals "__annotations__"
def ahead (p:Program)(n:Nat)(w:World)(os:OsState):SharedT:=((goN treeTable p w (m0 w) (t8 w) n (sT w.params os) (topStub p)).map (·.1)).getD (sT w.params os)
def later (p:Program)(mid:Params->OsState->SharedT)(env:Env)(b rest:List Stmt)(pos qp:Pos)(N:Nat)(w:World)(os:OsState):Option SharedT:=Cb treeTable p w (m0 w) (t8 w) N (mid w.params os) (restOf rest env (.body b env) pos [topFrame qp])
theorem Ez {p q:Program}{loose:List Str}{Xt:Sh->Bool}{α:Type}{Yf:Sh->α}{Ya:World->α}{N n0 n1 N2:Nat}{env:Env}{b l rest:List Stmt}{MS MT xv qp:Pos}{mid:Params->OsState->SharedT}
 (e:opening p=plainProg p.main.scope.names) (hN:Nat.ble 600 N=true) (hf:∀s,fenceModules? p s=some s) (hb:l++rest=b) (hM:Nat.ble (n0+(1+(n1+N2))) N=true)
 (c1:∀w os,goN treeTable p w (m0 w) (t8 w) n0 (sT w.params os) (topStub p)=some (ahead p n0 w os,⟨denote treeTable (.body b env),.body b env,MS,[topFrame qp]⟩))
 (c2:∀w os,segRunT treeTable p w (m0 w) (t8 w) 1 1 (ahead p n0 w os) (blockOf b env (.body b env) MS [topFrame qp])=some (.next,ahead p n0 w os,.body b env,MT))
 (c3:∀w os,segRunT treeTable p w (m0 w) (t8 w) 1 n1 (ahead p n0 w os) (piecesOf l env (.body b env) MT [topFrame qp])=some (.next,mid w.params os,.body b env,xv))
 (h1:∀w os,(later p mid env b rest xv qp N2 w os).map (fit p w.params)=some true)
 (h2:∀w os,(later p mid env b rest xv qp N2 w os).map (λs=>openSeen q loose (importedModules p.main.body) Xt true s.abs)=some (openGood q loose))
 (h3:∀w os,(later p mid env b rest xv qp N2 w os).map (λs=>Yf s.abs)=some (Ya w)):LeftO p q loose Xt Yf Ya N true:=λw=>by
 obtain⟨⟨h,gs,d,k,os⟩,e0,e1⟩:=Option.map_eq_some_iff.mp (boot_open e hN hf w);obtain⟨rfl,rfl,rfl,rfl⟩:h=boot_heap w.params/\gs=Array.mk []/\d=boot_drawn/\k=boot_toks:=by simpa using e1
 have g1:=h1 w os;have g2:=h2 w os;have g3:=h3 w os;cases hs:later p mid env b rest xv qp N2 w os with
 | none=>rw[hs] at g1;cases g1
 | some s=>
  rw[hs] at g1 g2 g3;have g1:fit p w.params s=true:=by simpa using g1
  have g2:openSeen q loose (importedModules p.main.body) Xt true s.abs=openGood q loose:=Option.some.inj g2;have g3:Yf s.abs=Ya w:=Option.some.inj g3;have r0:=wK hs;have r1:=piece_app (segRun_of (c3 w os)) r0;rw[hb] at r1;have r2:=piece_block (segRun_of (c2 w os)) r1;have r3:=go_top (wO (c1 w os)) r2;have r:=topRun_mono (N-(n0+(1+(n1+N2)))) _ _ _ _ r3;rw[show n0+(1+(n1+N2))+(N-(n0+(1+(n1+N2))))=N by have:=Nat.le_of_ble_eq_true hM;omega,JU] at r;have t:topFrom treeTable p w N ⟨boot_heap w.params,#[],boot_drawn,boot_toks,os⟩=some s.abs:=by unfold topFrom;dsimp only;rw[Il,r];show (match fit p w.params s with | true=>some s.abs | false=>none)=_;rw[g1]
  unfold openEnds;rw[e0];show (topFrom treeTable p w N _).map _=_;rw[t];exact congrArg some (Prod.ext g2 g3)
end TreeRun
end
namespace L2
open PySem
def df (s:Stmt):Arguments:=match s with
 | .FunctionDef _ a _ _ _ _ _ _ _ _=>a
 | _=>{ posonlyargs:=[],args:=[],vararg:=none,kwonlyargs:=[],kw_defaults:=[],kwarg:=none,defaults:=[] }
def cO (s:Stmt):List Stmt:=match s with
 | .FunctionDef _ _ b _ _ _ _ _ _ _=>b
 | _=>[]
def bo (s:Stmt):Scope:=match s with
 | .FunctionDef _ _ _ _ _ _ sc _ _ _=>sc
 | _=>{ kind:=.function,names:=[],isGenerator:=false,isCoroutine:=false }
end L2
namespace Q42
open PySem
noncomputable def top (i:Nat):Stmt:=PySem.Challenge.pw_namewants_k42_whole_ends.main.body.getD i (.Pass ⟨0,0,0,0⟩)
noncomputable def aD (s:Stmt)(j:Nat):Stmt:=match s with | .ClassDef _ _ _ b _ _ _ _ _ _ _=>b.getD j (.Pass ⟨0,0,0,0⟩) | _=>.Pass ⟨0,0,0,0⟩
end Q42
section
noncomputable abbrev Q42.fo (st:PySem.Stmt)(x q:PySem.Str)(m:PySem.Str)(t:PySem.Tok)(c:PySem.Addr):PySem.Obj:=⟨.type "function",none,.func (PySem.W.fnOf x q (L2.df st) (L2.cO st) (L2.bo st) .none .none .none (.str m t) none (.ref c) .none),#[]⟩
noncomputable def Q42.fc (x q:PySem.Str)(st:PySem.Stmt):PySem.Obj:=⟨.none,none,.func { PySem.W.fnOf x q (L2.df st) (L2.cO st) (L2.bo st) .none .none .none .none none .none .none with globals:=0 },#[]⟩
noncomputable abbrev Q42.e (P:PySem.Params)(x:PySem.Str)(n:PySem.Tok)(v:PySem.Value):PySem.DictEntry:=⟨PySem.PyData.keyHash P x,.str x n,v⟩
noncomputable abbrev Q42.co (x q:PySem.Str)(t l a r n:Nat):PySem.Obj:={ cls:=.type "code",data:=.fields #[.str x t,.str q (t+1),.str "/claim/cut.py" (t+2),.int l 0,.int a 0,.int 0 0,.int 0 0,.int 3 0,.ref r,.bool true,.int 181 0,.ref (r+1),.none,.ref (r+2),.ref (r+3),.ref (r+4),.int n 0,.int l 0,.str "/claim/cut.py" (n+1)] }
noncomputable abbrev Q42.cp (x q:PySem.Str)(t l a r:Nat):PySem.Obj:={ cls:=.type "code",data:=.fields #[.str x t,.str q (t+1),.str "/claim/cut.py" (t+2),.int l 0,.int a 0,.int 0 0,.int 0 0,.int 3 0,.ref r,.bool true,.int 181 0,.ref (r+1),.none,.none,.none,.ref (r+2),.int ((t:Nat)+3:Nat) 0,.int l 0,.str "/claim/cut.py" (t+4)] }
noncomputable abbrev Q42.ck (x:PySem.Str)(t l r:Nat):PySem.Obj:={ cls:=.type "code",data:=.fields #[.str x t,.str x (t+1),.str "/claim/cut.py" (t+2),.int l 0,.int 0 0,.int 0 0,.int 0 0,.int 0 0,.ref r,.bool false,.int 181 0,.ref (r+1),.none,.none,.none,.none,.int ((t:Nat)+3:Nat) 0,.int l 0,.str "/claim/cut.py" (t+4)] }
noncomputable abbrev Q42.ex (x:PySem.Str)(a b c t u:Nat):PySem.Obj:={ cls:=.type "type",data:=.cls { name:=x,bases:=[.ref 31],mro:=[.ref a,.ref 31,.type "ValueError",.type "Exception",.type "BaseException",.type "object"],ns:=b,qualname:=x },slots:=#[some (.ref c),none,some (.str x t),some (.str x u),some (.builtin "ValueError.__new__"),some (.bool true)] }
noncomputable abbrev Q42.tu (a:Array PySem.Value):PySem.Obj:={ cls:=.type "tuple",data:=.seq a }
noncomputable abbrev Q42.nf (a:Array PySem.Value):PySem.Obj:={ cls:=.none,data:=.fields a }
noncomputable abbrev Q42.di (a:Array PySem.DictEntry):PySem.Obj:={ cls:=.type "dict",data:=.dict a }
noncomputable abbrev Q42.fr (a:Array (Option PySem.Value)):PySem.Obj:={ cls:=.type "frame",slots:=a }
noncomputable abbrev Q42.gs (a:Array PySem.Value):PySem.Obj:={ cls:=.type "getset_descriptor",data:=.fields a }
def PySem.W.Fast.tw1382602873888080194:PySem.Program:=PySem.Challenge.pw_namewants_k42_whole_ends
theorem PySem.W.Fast.te1382602873888080194:PySem.Challenge.pw_namewants_k42_whole_ends=PySem.W.Fast.tw1382602873888080194:=rfl
namespace Q42
noncomputable def Kf:PySem.Params->PySem.W.Frag:=λP=>
(nat_lit 2,{ cls:=.none,data:=.dict #[] }) ::
(nat_lit 3,{ cls:=.type "dict",data:=.dict #[e P "__name__" 165 (.str "law_namewants_k42_whole_ends" 859),e P "__doc__" 166 (.none),e P "__package__" 167 (.none),e P "__loader__" 168 (.builtin "__main__.__loader__#opaque"),e P "__spec__" 169 (.none),e P "__annotations__" 170 (.ref 6),e P "__builtins__" 171 (.ref 4),e P "__file__" 173 (.str "/claim/cut.py" 172),e P "__cached__" 174 (.none),e P "_wall" 193 (.ref 21),e P "WantError" 213 (.ref 31),e P "BadName" 229 (.ref 44),e P "BadSides" 245 (.ref 56),e P "BadNumber" 261 (.ref 68),e P "BadLetter" 277 (.ref 80),e P "NoWay" 293 (.ref 92),e P "VALUE_MOST" 297 (.int 999 296),e P "SIDE_MOST" 299 (.int 7 298),e P "LIFE_MOST" 301 (.int 99 300),e P "is_whole" 308 (.ref 101),e P "is_within" 317 (.ref 108),e P "is_value" 324 (.ref 115),e P "is_side" 331 (.ref 122),e P "is_tick" 338 (.ref 129),e P "is_sides" 344 (.ref 134),e P "need_within" 353 (.ref 141),e P "need_value" 360 (.ref 148),e P "need_life" 367 (.ref 155),e P "need_tick" 374 (.ref 162),e P "need_sides" 381 (.ref 169),e P "SIGNS" 385 (.str "abcdefghijklmnopqrstuvwxyz0123456789" 384),e P "PART_LONGEST" 387 (.int 4 386),e P "NAME_LONGEST" 389 (.int 5 388),e P "is_part" 395 (.ref 174),e P "is_name" 401 (.ref 179),e P "is_beginning" 408 (.ref 186),e P "need_name" 415 (.ref 193),e P "need_beginning" 422 (.ref 200),e P "ROOM_MOST" 426 (.int 9 425),e P "Keeps" 496 (.ref 248),e P "Table" 599 (.ref 330),e P "WAIT_LEAST" 603 (.int 1 602),e P "WAIT_MOST" 605 (.int 20 604),e P "is_letter" 612 (.ref 341),e P "Wait" 644 (.ref 358),e P "House" 858 (.ref 512),e P "_law_cell" 868 (.ref 523),e P "_law_drawn" 877 (.ref 530),e P "_law_roll" 886 (.ref 537),e P "_law_rounds" 892 (.ref 542),e P "_law_head" 898 (.ref 547),e P "_law_any_name" 905 (.ref 554),e P "_law_some_sides" 915 (.ref 561),e P "_law_some_letter" 925 (.ref 568),e P "_law_made_of" 932 (.ref 575),e P "law" 938 (.ref 580)] 56 }) ::
(nat_lit 30,{ cls:=.type "dict",data:=.dict #[e P "__module__" 203 (.str "namewants.errors" 194),e P "__firstlineno__" 207 (.int 5 206),e P "__static_attributes__" 208 (.ref 29),e P "__weakref__" 210 (.ref 32),e P "__doc__" 211 (.none)] 3 }) ::
(nat_lit 31,{ cls:=.type "type",data:=.cls { name:="WantError",bases:=[.type "ValueError"],mro:=[.ref 31,.type "ValueError",.type "Exception",.type "BaseException",.type "object"],ns:=30,qualname:="WantError",subclasses:=[.ref 44,.ref 56,.ref 68,.ref 80,.ref 92] },slots:=#[some (.ref 22),none,some (.str "WantError" 196),some (.str "WantError" 204),some (.builtin "ValueError.__new__"),some (.bool true)] }) ::
(nat_lit 43,{ cls:=.type "dict",data:=.dict #[e P "__module__" 221 (.str "namewants.errors" 194),e P "__firstlineno__" 225 (.int 7 224),e P "__static_attributes__" 226 (.ref 42),e P "__doc__" 227 (.none)] 2 }) ::
(nat_lit 44,ex "BadName" 44 43 35 214 222) ::
(nat_lit 55,{ cls:=.type "dict",data:=.dict #[e P "__module__" 237 (.str "namewants.errors" 194),e P "__firstlineno__" 241 (.int 9 240),e P "__static_attributes__" 242 (.ref 54),e P "__doc__" 243 (.none)] 2 }) ::
(nat_lit 56,ex "BadSides" 56 55 47 230 238) ::
(nat_lit 67,{ cls:=.type "dict",data:=.dict #[e P "__module__" 253 (.str "namewants.errors" 194),e P "__firstlineno__" 257 (.int 11 256),e P "__static_attributes__" 258 (.ref 66),e P "__doc__" 259 (.none)] 2 }) ::
(nat_lit 68,ex "BadNumber" 68 67 59 246 254) ::
(nat_lit 79,{ cls:=.type "dict",data:=.dict #[e P "__module__" 269 (.str "namewants.errors" 194),e P "__firstlineno__" 273 (.int 13 272),e P "__static_attributes__" 274 (.ref 78),e P "__doc__" 275 (.none)] 2 }) ::
(nat_lit 80,ex "BadLetter" 80 79 71 262 270) ::
(nat_lit 91,{ cls:=.type "dict",data:=.dict #[e P "__module__" 285 (.str "namewants.errors" 194),e P "__firstlineno__" 289 (.int 15 288),e P "__static_attributes__" 290 (.ref 90),e P "__doc__" 291 (.none)] 2 }) ::
(nat_lit 92,ex "NoWay" 92 91 83 278 286) ::
(nat_lit 100,co "is_whole" "is_whole" 302 21 1 95 306) ::
(nat_lit 101,fo (top 12) "is_whole" "is_whole" "namewants.checks" 294 100) ::
(nat_lit 107,co "is_within" "is_within" 309 23 3 102 315) ::
(nat_lit 108,fo (top 13) "is_within" "is_within" "namewants.checks" 294 107) ::
(nat_lit 114,co "is_value" "is_value" 318 25 1 109 322) ::
(nat_lit 115,fo (top 14) "is_value" "is_value" "namewants.checks" 294 114) ::
(nat_lit 121,co "is_side" "is_side" 325 27 1 116 329) ::
(nat_lit 122,fo (top 15) "is_side" "is_side" "namewants.checks" 294 121) ::
(nat_lit 128,co "is_tick" "is_tick" 332 29 1 123 336) ::
(nat_lit 129,fo (top 16) "is_tick" "is_tick" "namewants.checks" 294 128) ::
(nat_lit 133,cp "is_sides" "is_sides" 339 31 1 130) ::
(nat_lit 134,fo (top 17) "is_sides" "is_sides" "namewants.checks" 294 133) ::
(nat_lit 140,co "need_within" "need_within" 345 37 3 135 351) ::
(nat_lit 141,fo (top 18) "need_within" "need_within" "namewants.checks" 294 140) ::
(nat_lit 147,co "need_value" "need_value" 354 40 1 142 358) ::
(nat_lit 148,fo (top 19) "need_value" "need_value" "namewants.checks" 294 147) ::
(nat_lit 161,co "need_tick" "need_tick" 368 44 1 156 372) ::
(nat_lit 162,fo (top 21) "need_tick" "need_tick" "namewants.checks" 294 161) ::
(nat_lit 168,co "need_sides" "need_sides" 375 47 1 163 379) ::
(nat_lit 169,fo (top 22) "need_sides" "need_sides" "namewants.checks" 294 168) ::
(nat_lit 173,cp "is_part" "is_part" 390 54 1 170) ::
(nat_lit 174,fo (top 27) "is_part" "is_part" "namewants.names" 382 173) ::
(nat_lit 178,cp "is_name" "is_name" 396 58 1 175) ::
(nat_lit 179,fo (top 28) "is_name" "is_name" "namewants.names" 382 178) ::
(nat_lit 185,co "is_beginning" "is_beginning" 402 62 1 180 406) ::
(nat_lit 186,fo (top 29) "is_beginning" "is_beginning" "namewants.names" 382 185) ::
(nat_lit 192,co "need_name" "need_name" 409 64 1 187 413) ::
(nat_lit 193,fo (top 30) "need_name" "need_name" "namewants.names" 382 192) ::
(nat_lit 199,co "need_beginning" "need_beginning" 416 67 1 194 420) ::
(nat_lit 200,fo (top 31) "need_beginning" "need_beginning" "namewants.names" 382 199) ::
(nat_lit 213,co "__init__" "Keeps.__init__" 439 74 2 208 444) ::
(nat_lit 214,fo (aD (top 34) 0) "__init__" "Keeps.__init__" "namewants.keeps" 423 213) ::
(nat_lit 220,co "put" "Keeps.put" 447 79 5 215 455) ::
(nat_lit 221,fo (aD (top 34) 1) "put" "Keeps.put" "namewants.keeps" 423 220) ::
(nat_lit 227,co "got" "Keeps.got" 458 91 3 222 465) ::
(nat_lit 228,fo (aD (top 34) 2) "got" "Keeps.got" "namewants.keeps" 423 227) ::
(nat_lit 232,cp "aged" "Keeps.aged" 468 100 2 229) ::
(nat_lit 233,fo (aD (top 34) 3) "aged" "Keeps.aged" "namewants.keeps" 423 232) ::
(nat_lit 244,co "__len__" "Keeps.__len__" 480 110 1 239 484) ::
(nat_lit 245,fo (aD (top 34) 5) "__len__" "Keeps.__len__" "namewants.keeps" 423 244) ::
(nat_lit 247,{ cls:=.type "dict",data:=.dict #[e P "__module__" 434 (.str "namewants.keeps" 423),e P "__firstlineno__" 438 (.int 72 437),e P "__init__" 446 (.ref 214),e P "put" 457 (.ref 221),e P "got" 467 (.ref 228),e P "aged" 473 (.ref 233),e P "rows" 479 (.ref 238),e P "__len__" 486 (.ref 245),e P "__static_attributes__" 489 (.ref 246),e P "__dict__" 491 (.ref 249),e P "__weakref__" 493 (.ref 250),e P "__doc__" 494 (.none)] 4 }) ::
(nat_lit 248,{ cls:=.type "type",data:=.cls { name:="Keeps",bases:=[.type "object"],mro:=[.ref 248,.type "object"],ns:=247,qualname:="Keeps" },slots:=#[none,none,some (.str "Keeps" 427),some (.str "Keeps" 435),some (.builtin "object.__new__"),some (.bool true)] }) ::
(nat_lit 265,co "__init__" "Table.__init__" 511 115 1 260 515) ::
(nat_lit 266,fo (aD (top 36) 0) "__init__" "Table.__init__" "namewants.tables" 497 265) ::
(nat_lit 272,co "put" "Table.put" 518 118 3 267 524) ::
(nat_lit 273,fo (aD (top 36) 1) "put" "Table.put" "namewants.tables" 497 272) ::
(nat_lit 286,co "way" "Table.way" 535 126 2 281 542) ::
(nat_lit 287,fo (aD (top 36) 3) "way" "Table.way" "namewants.tables" 497 286) ::
(nat_lit 293,co "sides" "Table.sides" 545 134 2 288 551) ::
(nat_lit 294,fo (aD (top 36) 4) "sides" "Table.sides" "namewants.tables" 497 293) ::
(nat_lit 319,co "__len__" "Table.__len__" 575 147 1 314 579) ::
(nat_lit 320,fo (aD (top 36) 8) "__len__" "Table.__len__" "namewants.tables" 497 319) ::
(nat_lit 329,{ cls:=.type "dict",data:=.dict #[e P "__module__" 506 (.str "namewants.tables" 497),e P "__firstlineno__" 510 (.int 113 509),e P "__init__" 517 (.ref 266),e P "put" 526 (.ref 273),e P "drop" 534 (.ref 280),e P "way" 544 (.ref 287),e P "sides" 553 (.ref 294),e P "rows" 559 (.ref 299),e P "parted" 567 (.ref 306),e P "lean" 574 (.ref 313),e P "__len__" 581 (.ref 320),e P "__eq__" 589 (.ref 327),e P "__static_attributes__" 591 (.ref 328),e P "__dict__" 593 (.ref 331),e P "__weakref__" 595 (.ref 332),e P "__doc__" 596 (.none),e P "__hash__" 597 (.none)] 5 }) ::
(nat_lit 330,{ cls:=.type "type",data:=.cls { name:="Table",bases:=[.type "object"],mro:=[.ref 330,.type "object"],ns:=329,qualname:="Table" },slots:=#[none,none,some (.str "Table" 499),some (.str "Table" 507),some (.builtin "object.__new__"),some (.bool true)] }) ::
(nat_lit 340,co "is_letter" "is_letter" 606 155 1 335 610) ::
(nat_lit 341,fo (top 40) "is_letter" "is_letter" "namewants.houses" 600 340) ::
(nat_lit 354,co "__init__" "Wait.__init__" 625 163 2 349 630) ::
(nat_lit 355,fo (aD (top 41) 0) "__init__" "Wait.__init__" "namewants.houses" 600 354) ::
(nat_lit 357,{ cls:=.type "dict",data:=.dict #[e P "__module__" 620 (.str "namewants.houses" 600),e P "__firstlineno__" 624 (.int 161 623),e P "__init__" 632 (.ref 355),e P "__static_attributes__" 637 (.ref 356),e P "__dict__" 639 (.ref 359),e P "__weakref__" 641 (.ref 360),e P "__doc__" 642 (.none)] 4 }) ::
(nat_lit 358,{ cls:=.type "type",data:=.cls { name:="Wait",bases:=[.type "object"],mro:=[.ref 358,.type "object"],ns:=357,qualname:="Wait" },slots:=#[none,none,some (.str "Wait" 613),some (.str "Wait" 621),some (.builtin "object.__new__"),some (.bool true)] }) ::
(nat_lit 370,{ cls:=.type "dict",data:=.dict #[e P "room" 659 (.int 4 657),e P "wait" 660 (.int 6 658)] 2 }) ::
(nat_lit 376,{ cls:=.type "code",data:=.fields #[.str "__init__" 661,.str "House.__init__" 662,.str "/claim/cut.py" 663,.int 170 0,.int 3 0,.int 0 0,.int 2 0,.int 3 0,.ref 371,.bool true,.int 181 0,.ref 372,.none,.ref 373,.ref 374,.ref 375,.int 669 0,.int 170 0,.str "/claim/cut.py" 670] }) ::
(nat_lit 377,⟨.type "function",none,.func (PySem.W.fnOf "__init__" "House.__init__" (L2.df (aD (top 42) 0)) (L2.cO (aD (top 42) 0)) (L2.bo (aD (top 42) 0)) .none (.ref 370) .none (.str "namewants.houses" 600) none (.ref 376) .none),#[]⟩) ::
(nat_lit 383,co "ask" "House.ask" 672 186 3 378 679) ::
(nat_lit 384,fo (aD (top 42) 1) "ask" "House.ask" "namewants.houses" 600 383) ::
(nat_lit 390,co "come" "House.come" 682 193 4 385 690) ::
(nat_lit 391,fo (aD (top 42) 2) "come" "House.come" "namewants.houses" 600 390) ::
(nat_lit 395,cp "tick" "House.tick" 693 208 2 392) ::
(nat_lit 396,fo (aD (top 42) 3) "tick" "House.tick" "namewants.houses" 600 395) ::
(nat_lit 416,co "teach" "House.teach" 717 226 3 411 723) ::
(nat_lit 417,fo (aD (top 42) 6) "teach" "House.teach" "namewants.houses" 600 416) ::
(nat_lit 430,co "end" "House.end" 734 232 2 425 739) ::
(nat_lit 431,fo (aD (top 42) 8) "end" "House.end" "namewants.houses" 600 430) ::
(nat_lit 470,cp "toward" "House.toward" 781 256 2 467) ::
(nat_lit 471,fo (aD (top 42) 14) "toward" "House.toward" "namewants.houses" 600 470) ::
(nat_lit 477,co "found" "House.found" 787 259 3 472 796) ::
(nat_lit 478,fo (aD (top 42) 15) "found" "House.found" "namewants.houses" 600 477) ::
(nat_lit 482,cp "answered" "House.answered" 799 268 4 479) ::
(nat_lit 483,fo (aD (top 42) 16) "answered" "House.answered" "namewants.houses" 600 482) ::
(nat_lit 487,cp "told_thing" "House.told_thing" 805 282 4 484) ::
(nat_lit 488,fo (aD (top 42) 17) "told_thing" "House.told_thing" "namewants.houses" 600 487) ::
(nat_lit 494,co "told_no" "House.told_no" 811 289 3 489 818) ::
(nat_lit 495,fo (aD (top 42) 18) "told_no" "House.told_no" "namewants.houses" 600 494) ::
(nat_lit 501,co "ended" "House.ended" 821 295 2 496 827) ::
(nat_lit 502,fo (aD (top 42) 19) "ended" "House.ended" "namewants.houses" 600 501) ::
(nat_lit 508,co "told" "House.told" 830 299 3 503 839) ::
(nat_lit 509,fo (aD (top 42) 20) "told" "House.told" "namewants.houses" 600 508) ::
(nat_lit 511,{ cls:=.type "dict",data:=.dict #[e P "__module__" 652 (.str "namewants.houses" 600),e P "__firstlineno__" 656 (.int 168 655),e P "__init__" 671 (.ref 377),e P "ask" 681 (.ref 384),e P "come" 692 (.ref 391),e P "tick" 698 (.ref 396),e P "own" 708 (.ref 403),e P "disown" 716 (.ref 410),e P "teach" 725 (.ref 417),e P "forget" 733 (.ref 424),e P "end" 741 (.ref 431),e P "waits" 751 (.ref 438),e P "keeps" 758 (.ref 445),e P "owns" 765 (.ref 452),e P "table" 772 (.ref 459),e P "has" 780 (.ref 466),e P "toward" 786 (.ref 471),e P "found" 798 (.ref 478),e P "answered" 804 (.ref 483),e P "told_thing" 810 (.ref 488),e P "told_no" 820 (.ref 495),e P "ended" 829 (.ref 502),e P "told" 841 (.ref 509),e P "__static_attributes__" 851 (.ref 510),e P "__dict__" 853 (.ref 513),e P "__weakref__" 855 (.ref 514),e P "__doc__" 856 (.none)] 4 }) ::
(nat_lit 512,{ cls:=.type "type",data:=.cls { name:="House",bases:=[.type "object"],mro:=[.ref 512,.type "object"],ns:=511,qualname:="House" },slots:=#[none,none,some (.str "House" 645),some (.str "House" 653),some (.builtin "object.__new__"),some (.bool true)] }) ::
(nat_lit 522,co "_law_cell" "_law_cell" 861 309 2 517 866) ::
(nat_lit 523,fo (top 44) "_law_cell" "_law_cell" "law_namewants_k42_whole_ends" 859 522) ::
(nat_lit 529,co "_law_drawn" "_law_drawn" 869 313 2 524 875) ::
(nat_lit 530,fo (top 45) "_law_drawn" "_law_drawn" "law_namewants_k42_whole_ends" 859 529) ::
(nat_lit 536,co "_law_roll" "_law_roll" 878 318 2 531 884) ::
(nat_lit 537,fo (top 46) "_law_roll" "_law_roll" "law_namewants_k42_whole_ends" 859 536) ::
(nat_lit 541,cp "_law_rounds" "_law_rounds" 887 325 2 538) ::
(nat_lit 542,fo (top 47) "_law_rounds" "_law_rounds" "law_namewants_k42_whole_ends" 859 541) ::
(nat_lit 546,cp "_law_head" "_law_head" 893 327 1 543) ::
(nat_lit 547,fo (top 48) "_law_head" "_law_head" "law_namewants_k42_whole_ends" 859 546) ::
(nat_lit 553,co "_law_any_name" "_law_any_name" 899 330 1 548 903) ::
(nat_lit 554,fo (top 49) "_law_any_name" "_law_any_name" "law_namewants_k42_whole_ends" 859 553) ::
(nat_lit 560,co "_law_some_sides" "_law_some_sides" 906 332 2 555 913) ::
(nat_lit 561,fo (top 50) "_law_some_sides" "_law_some_sides" "law_namewants_k42_whole_ends" 859 560) ::
(nat_lit 567,co "_law_some_letter" "_law_some_letter" 916 338 2 562 923) ::
(nat_lit 568,fo (top 51) "_law_some_letter" "_law_some_letter" "law_namewants_k42_whole_ends" 859 567) ::
(nat_lit 574,co "_law_made_of" "_law_made_of" 926 344 1 569 930) ::
(nat_lit 575,fo (top 52) "_law_made_of" "_law_made_of" "law_namewants_k42_whole_ends" 859 574) ::
(nat_lit 579,cp "law" "law" 933 346 1 576) ::
(nat_lit 580,fo (top 53) "law" "law" "law_namewants_k42_whole_ends" 859 579)::[]
end Q42
def PySem.W.Fast.tw8542678062149186435:PySem.Params->PySem.W.Frag:=Q42.Kf
theorem PySem.W.Fast.te8542678062149186435:Q42.Kf=PySem.W.Fast.tw8542678062149186435:=rfl
namespace Q42
noncomputable def vw:PySem.Program:={ PySem.Challenge.pw_namewants_k42_whole_ends with main:={ (PySem.Challenge.pw_namewants_k42_whole_ends).main with body:=top 0::top 2::top 3::top 4::top 5::top 6::top 7::top 9::top 10::top 11::top 12::top 13::top 14::top 15::top 16::top 17::top 18::top 19::top 20::top 21::top 22::top 24::top 25::top 26::top 27::top 28::top 29::top 30::top 31::top 33::top 34::top 36::top 38::top 39::top 40::top 41::top 42::top 44::top 45::top 46::top 47::top 48::top 49::top 50::top 51::top 52::top 53::[] } }
end Q42
noncomputable abbrev Q42.Gw:List PySem.Addr:=[2,3,30,31,43,44,55,56,67,68,79,80,91,92,100,101,107,108,114,115,121,122,128,129,133,134,140,141,147,148,161,162,168,169,173,174,178,179,185,186,192,193,199,200,213,214,220,221,227,228,232,233,244,245,247,248,265,266,272,273,286,287,293,294,319,320,329,330,340,341,354,355,357,358,370,376,377,383,384,390,391,395,396,416,417,430,431,470,471,477,478,482,483,487,488,494,495,501,502,508,509,511,512,522,523,529,530,536,537,541,542,546,547,553,554,560,561,567,568,574,575,579,580]
namespace Q42
noncomputable def rf (P:PySem.Params)(x:PySem.Str)(a b c:Nat):List PySem.Obj:=
{ cls:=.type "tuple",data:=.seq #[.ref 31] } ::
{ cls:=.type "builtin_function_or_method",data:=.fields #[.builtin "type.__prepare__",.type "type"] } ::
{ cls:=.type "dict",data:=.dict #[e P "__module__" (221+a) (.str "namewants.errors" 194),e P "__qualname__" (223+a) (.str x (222+a)),e P "__firstlineno__" (225+a) (.int (7+b) (224+a)),e P "__static_attributes__" (226+a) (.ref (42+c))] 4 } ::
{ cls:=.type "tuple",data:=.seq #[] } ::
{ cls:=.none,data:=.fields #[] } ::
{ cls:=.type "code",data:=.fields #[.str x (216+a),.str x (217+a),.str "/claim/cut.py" (218+a),.int (7+b) 0,.int 0 0,.int 0 0,.int 0 0,.int 0 0,.ref (38+c),.bool false,.int 181 0,.ref (39+c),.none,.none,.none,.none,.int (219+a) 0,.int (7+b) 0,.str "/claim/cut.py" (220+a)] } ::
{ cls:=.type "frame",slots:=#[some (.ref (40+c)),some (.ref 3),some (.ref (37+c)),none,some (.str "namewants.errors" 194),none,some (.ref 0)] } ::
{ cls:=.type "tuple",data:=.seq #[] } ::
{ cls:=.type "dict",data:=.dict #[e P "__module__" (221+a) (.str "namewants.errors" 194),e P "__firstlineno__" (225+a) (.int (7+b) (224+a)),e P "__static_attributes__" (226+a) (.ref (42+c)),e P "__doc__" (227+a) (.none)] 2 } ::
{ cls:=.type "type",data:=.cls { name:=x,bases:=[.ref 31],mro:=[.ref (44+c),.ref 31,.type "ValueError",.type "Exception",.type "BaseException",.type "object"],ns:=(43+c),qualname:=x },slots:=#[some (.ref (35+c)),none,some (.str x (214+a)),some (.str x (222+a)),some (.builtin "ValueError.__new__"),some (.bool true)] } ::
{ cls:=.type "super",data:=.fields #[.ref (44+c),.ref (44+c),.ref (44+c)] } ::
{ cls:=.type "builtin_function_or_method",data:=.fields #[.builtin "object.__init_subclass__",.ref (44+c)] }::[]
noncomputable def Pf:PySem.Params->List PySem.Obj:=λP=>
(PySem.W.boot_o_0 P ::
PySem.W.boot_o_1 P ::
PySem.W.boot_o_2 P ::
{ cls:=.type "dict",data:=.dict #[e P "__name__" 165 (.str "namewants.keeps" 423),e P "__doc__" 166 (.none),e P "__package__" 167 (.none),e P "__loader__" 168 (.builtin "__main__.__loader__#opaque"),e P "__spec__" 169 (.none),e P "__annotations__" 170 (.ref 6),e P "__builtins__" 171 (.ref 4),e P "__file__" 173 (.str "/claim/cut.py" 172),e P "__cached__" 174 (.none),e P "_wall" 193 (.ref 21),e P "WantError" 213 (.ref 31),e P "BadName" 229 (.ref 44),e P "BadSides" 245 (.ref 56),e P "BadNumber" 261 (.ref 68),e P "BadLetter" 277 (.ref 80),e P "NoWay" 293 (.ref 92),e P "VALUE_MOST" 297 (.int 999 296),e P "SIDE_MOST" 299 (.int 7 298),e P "LIFE_MOST" 301 (.int 99 300),e P "is_whole" 308 (.ref 101),e P "is_within" 317 (.ref 108),e P "is_value" 324 (.ref 115),e P "is_side" 331 (.ref 122),e P "is_tick" 338 (.ref 129),e P "is_sides" 344 (.ref 134),e P "need_within" 353 (.ref 141),e P "need_value" 360 (.ref 148),e P "need_life" 367 (.ref 155),e P "need_tick" 374 (.ref 162),e P "need_sides" 381 (.ref 169),e P "SIGNS" 385 (.str "abcdefghijklmnopqrstuvwxyz0123456789" 384),e P "PART_LONGEST" 387 (.int 4 386),e P "NAME_LONGEST" 389 (.int 5 388),e P "is_part" 395 (.ref 174),e P "is_name" 401 (.ref 179),e P "is_beginning" 408 (.ref 186),e P "need_name" 415 (.ref 193),e P "need_beginning" 422 (.ref 200),e P "ROOM_MOST" 426 (.int 9 425)] 39 } ::
PySem.W.boot_o_4 P ::
PySem.W.boot_o_5 P ::
PySem.W.boot_o_6 P ::
PySem.W.boot_o_7 P ::
PySem.W.boot_o_8 P ::
PySem.W.boot_o_9 P ::
PySem.W.boot_o_10 P ::
tu #[] ::
nf #[.int 1 0,.int 0 0,.ref 20,.int 5 0,.int 0 0,.ref 27,.int 7 0,.int 0 0,.ref 40,.int 9 0,.int 0 0,.ref 52,.int 11 0,.int 0 0,.ref 64,.int 13 0,.int 0 0,.ref 76,.int 15 0,.int 0 0,.ref 88,.int 21 0,.int 0 0,.ref 100,.int 23 0,.int 0 0,.ref 107,.int 25 0,.int 0 0,.ref 114,.int 27 0,.int 0 0,.ref 121,.int 29 0,.int 0 0,.ref 128,.int 31 0,.int 0 0,.ref 133,.int 37 0,.int 0 0,.ref 140,.int 40 0,.int 0 0,.ref 147,.int 42 0,.int 0 0,.ref 154,.int 44 0,.int 0 0,.ref 161,.int 47 0,.int 0 0,.ref 168,.int 54 0,.int 0 0,.ref 173,.int 58 0,.int 0 0,.ref 178,.int 62 0,.int 0 0,.ref 185,.int 64 0,.int 0 0,.ref 192,.int 67 0,.int 0 0,.ref 199] ::
ck "<module>" 182 1 11 ::
fr #[some (.ref 13),some (.ref 3),some (.ref 3),none,some (.str "__main__" 164),none,some (.ref 0)] ::
tu #[] ::
nf #[] ::
tu #[.str "k" 190] ::
tu #[] ::
fc "_wall" "_wall" (top 0) ::
co "_wall" "_wall" 187 1 1 15 191 ::
fo (top 0) "_wall" "_wall" "__main__" 164 20 ::
tu #[.type "ValueError"] ::
{ cls:=.type "builtin_function_or_method",data:=.fields #[.builtin "type.__prepare__",.type "type"] } ::
{ cls:=.type "dict",data:=.dict #[e P "__module__" 203 (.str "namewants.errors" 194),e P "__qualname__" 205 (.str "WantError" 204),e P "__firstlineno__" 207 (.int 5 206),e P "__static_attributes__" 208 (.ref 29)] 4 } ::
tu #[] ::
nf #[] ::
ck "WantError" 198 5 25 ::
fr #[some (.ref 27),some (.ref 3),some (.ref 24),none,some (.str "namewants.errors" 194),none,some (.ref 0)] ::
tu #[] ::
{ cls:=.type "dict",data:=.dict #[e P "__module__" 203 (.str "namewants.errors" 194),e P "__firstlineno__" 207 (.int 5 206),e P "__static_attributes__" 208 (.ref 29),e P "__weakref__" 210 (.ref 32),e P "__doc__" 211 (.none)] 3 } ::
{ cls:=.type "type",data:=.cls { name:="WantError",bases:=[.type "ValueError"],mro:=[.ref 31,.type "ValueError",.type "Exception",.type "BaseException",.type "object"],ns:=30,qualname:="WantError",subclasses:=[.ref 44,.ref 56,.ref 68,.ref 80,.ref 92] },slots:=#[some (.ref 22),none,some (.str "WantError" 196),some (.str "WantError" 204),some (.builtin "ValueError.__new__"),some (.bool true)] } ::
gs #[.str "__weakref__" 209,.ref 31,.builtin "ExceptionGroup.__weakref__",.none] ::
{ cls:=.type "super",data:=.fields #[.ref 31,.ref 31,.ref 31] } ::
{ cls:=.type "builtin_function_or_method",data:=.fields #[.builtin "object.__init_subclass__",.ref 31] }::[]) ++
rf P "BadName" 0 0 0 ++
rf P "BadSides" 16 2 12 ++
rf P "BadNumber" 32 4 24 ++
rf P "BadLetter" 48 6 36 ++
rf P "NoWay" 64 8 48 ++
(tu #[] ::
nf #[] ::
tu #[.str "thing" 305] ::
tu #[] ::
fc "is_whole" "is_whole" (top 12) ::
co "is_whole" "is_whole" 302 21 1 95 306 ::
fo (top 12) "is_whole" "is_whole" "namewants.checks" 294 100 ::
tu #[] ::
nf #[] ::
tu #[.str "thing" 312,.str "least" 313,.str "most" 314] ::
tu #[] ::
fc "is_within" "is_within" (top 13) ::
co "is_within" "is_within" 309 23 3 102 315 ::
fo (top 13) "is_within" "is_within" "namewants.checks" 294 107 ::
tu #[] ::
nf #[] ::
tu #[.str "thing" 321] ::
tu #[] ::
fc "is_value" "is_value" (top 14) ::
co "is_value" "is_value" 318 25 1 109 322 ::
fo (top 14) "is_value" "is_value" "namewants.checks" 294 114 ::
tu #[] ::
nf #[] ::
tu #[.str "thing" 328] ::
tu #[] ::
fc "is_side" "is_side" (top 15) ::
co "is_side" "is_side" 325 27 1 116 329 ::
fo (top 15) "is_side" "is_side" "namewants.checks" 294 121 ::
tu #[] ::
nf #[] ::
tu #[.str "thing" 335] ::
tu #[] ::
fc "is_tick" "is_tick" (top 16) ::
co "is_tick" "is_tick" 332 29 1 123 336 ::
fo (top 16) "is_tick" "is_tick" "namewants.checks" 294 128 ::
tu #[] ::
nf #[] ::
fc "is_sides" "is_sides" (top 17) ::
cp "is_sides" "is_sides" 339 31 1 130 ::
fo (top 17) "is_sides" "is_sides" "namewants.checks" 294 133 ::
tu #[] ::
nf #[] ::
tu #[.str "thing" 348,.str "least" 349,.str "most" 350] ::
tu #[] ::
fc "need_within" "need_within" (top 18) ::
co "need_within" "need_within" 345 37 3 135 351 ::
fo (top 18) "need_within" "need_within" "namewants.checks" 294 140 ::
tu #[] ::
nf #[] ::
tu #[.str "thing" 357] ::
tu #[] ::
fc "need_value" "need_value" (top 19) ::
co "need_value" "need_value" 354 40 1 142 358 ::
fo (top 19) "need_value" "need_value" "namewants.checks" 294 147 ::
tu #[] ::
nf #[] ::
tu #[.str "thing" 364] ::
tu #[] ::
fc "need_life" "need_life" (top 20) ::
co "need_life" "need_life" 361 42 1 149 365 ::
fo (top 20) "need_life" "need_life" "namewants.checks" 294 154 ::
tu #[] ::
nf #[] ::
tu #[.str "thing" 371] ::
tu #[] ::
fc "need_tick" "need_tick" (top 21) ::
co "need_tick" "need_tick" 368 44 1 156 372 ::
fo (top 21) "need_tick" "need_tick" "namewants.checks" 294 161 ::
tu #[] ::
nf #[] ::
tu #[.str "thing" 378] ::
tu #[] ::
fc "need_sides" "need_sides" (top 22) ::
co "need_sides" "need_sides" 375 47 1 163 379 ::
fo (top 22) "need_sides" "need_sides" "namewants.checks" 294 168 ::
tu #[] ::
nf #[] ::
fc "is_part" "is_part" (top 27) ::
cp "is_part" "is_part" 390 54 1 170 ::
fo (top 27) "is_part" "is_part" "namewants.names" 382 173 ::
tu #[] ::
nf #[] ::
fc "is_name" "is_name" (top 28) ::
cp "is_name" "is_name" 396 58 1 175 ::
fo (top 28) "is_name" "is_name" "namewants.names" 382 178 ::
tu #[] ::
nf #[] ::
tu #[.str "thing" 405] ::
tu #[] ::
fc "is_beginning" "is_beginning" (top 29) ::
co "is_beginning" "is_beginning" 402 62 1 180 406 ::
fo (top 29) "is_beginning" "is_beginning" "namewants.names" 382 185 ::
tu #[] ::
nf #[] ::
tu #[.str "thing" 412] ::
tu #[] ::
fc "need_name" "need_name" (top 30) ::
co "need_name" "need_name" 409 64 1 187 413 ::
fo (top 30) "need_name" "need_name" "namewants.names" 382 192 ::
tu #[] ::
nf #[] ::
tu #[.str "thing" 419] ::
tu #[] ::
fc "need_beginning" "need_beginning" (top 31) ::
co "need_beginning" "need_beginning" 416 67 1 194 420 ::
fo (top 31) "need_beginning" "need_beginning" "namewants.names" 382 199::[])
end Q42
noncomputable def Q42.mid (P:PySem.Params)(os:PySem.OsState):PySem.W.SharedT:=⟨TreeRun.Aw 0 .nil (Q42.Pf P),nat_lit 201,{},#[],{},nat_lit 427,os⟩
noncomputable abbrev Q42.env:PySem.Env:={ scope:=(PySem.Challenge.pw_namewants_k42_whole_ends).main.scope,locals:=PySem.mainNs,globals:=PySem.mainNs,cells:=[],code:=.ref 13,frame:=some 14 }
noncomputable abbrev Q42.bd:List PySem.Stmt:=(PySem.Challenge.pw_namewants_k42_whole_ends).main.body
noncomputable abbrev Q42.hk:PySem.W.Hook:=PySem.W.kmHook Q42.Kf Q42.Gw (λ_=>by kernel_rfl) []
noncomputable abbrev Q42.lk:PySem.Shared->Bool:=λs=>PySem.W.xlAt Q42.vw [] s&&PySem.W.recOk (PySem.W.RowW.records (PySem.W.OpenRow.toRowW (PySem.W.OpenLaw.row PySem.Challenge.rw_namewants_k42_whole_ends))) s
end
namespace Q42
open PySem PySem.W PyProof.Rows PySem.Calls TreeRun
theorem O6 (w:World)(os:OsState):goN treeTable PySem.Challenge.pw_namewants_k42_whole_ends w (m0 w) (t8 w) 12 (sT w.params os) (topStub PySem.Challenge.pw_namewants_k42_whole_ends)=some (ahead PySem.Challenge.pw_namewants_k42_whole_ends 12 w os,⟨denote treeTable (.body bd env),.body bd env,⟨0,0,0,0⟩,[topFrame ⟨0,0,0,0⟩]⟩):=by kernel_rfl
theorem OP (w:World)(os:OsState):segRunT treeTable PySem.Challenge.pw_namewants_k42_whole_ends w (m0 w) (t8 w) 1 1 (ahead PySem.Challenge.pw_namewants_k42_whole_ends 12 w os) (blockOf bd env (.body bd env) ⟨0,0,0,0⟩ [topFrame ⟨0,0,0,0⟩])=some (.next,ahead PySem.Challenge.pw_namewants_k42_whole_ends 12 w os,.body bd env,⟨0,0,0,0⟩):=by kernel_rfl
theorem OR (w:World)(os:OsState):segRunT treeTable PySem.Challenge.pw_namewants_k42_whole_ends w (m0 w) (t8 w) 1 5000 (ahead PySem.Challenge.pw_namewants_k42_whole_ends 12 w os) (piecesOf (bd.take 34) env (.body bd env) ⟨0,0,0,0⟩ [topFrame ⟨0,0,0,0⟩])=some (.next,mid w.params os,.body bd env,⟨71,0,71,9⟩):=by kernel_rfl
theorem Jq (w:World)(os:OsState):(later PySem.Challenge.pw_namewants_k42_whole_ends mid env bd (bd.drop 34) ⟨71,0,71,9⟩ ⟨0,0,0,0⟩ 6000 w os).map (fit PySem.Challenge.pw_namewants_k42_whole_ends w.params)=some true:=by kernel_rfl
theorem Fj (w:World)(os:OsState):(later PySem.Challenge.pw_namewants_k42_whole_ends mid env bd (bd.drop 34) ⟨71,0,71,9⟩ ⟨0,0,0,0⟩ 6000 w os).map (λs=>openSeen vw ["House"] (importedModules (PySem.Challenge.pw_namewants_k42_whole_ends).main.body) lk true s.abs)=some (openGood vw ["House"]):=by kernel_rfl
theorem Hz (w:World)(os:OsState):(later PySem.Challenge.pw_namewants_k42_whole_ends mid env bd (bd.drop 34) ⟨71,0,71,9⟩ ⟨0,0,0,0⟩ 6000 w os).map (λs=>Hook.obs hk s.abs)=some (Hook.val hk w):=by kernel_rfl
end Q42
namespace L2
open PySem PySem.Spec PyProof.Rows
abbrev Key:=Sum Int Str
def oa:Key->Value->Bool
 | .inl k,v=>Value.isInt k v
 | .inr x,v=>Value.isStrOf x v
def OX (w:World):Key->Int
 | .inl k=>hashInt k
 | .inr x=>hashStr w x
theorem cZ:∀{k:Key} {v:Value},oa k v=true->(∃i t,k=Sum.inl i/\v=Value.int i t)\/(∃x t,k=Sum.inr x/\v=Value.str x t)
 | .inl i,v,h=>by obtain⟨t,e⟩:=Value.isInt_shape (k:=i) (v:=v) h;exact .inl ⟨i,t,rfl,e⟩
 | .inr x,v,h=>by obtain⟨t,e⟩:=Value.isStrOf_shape (x:=x) (v:=v) h;exact .inr ⟨x,t,rfl,e⟩
theorem Df (i:Int)(t:Tok):oa (.inl i) (.int i t)=true:=by simp[oa,Value.isInt]
theorem BA (x:Str)(t:Tok):oa (.inr x) (.str x t)=true:=by simp[oa,Value.isStrOf]
theorem K5 (a b:Int):decide ((Sum.inl a:Key)=Sum.inl b)=(a==b):=by
 by_cases e:a=b
 .subst e;simp
 .have h:¬(Sum.inl a:Key)=Sum.inl b:=λq=>e (Sum.inl.inj q);rw[decide_eq_false h];exact(beq_eq_false_iff_ne.mpr e).symm
theorem Ld (a b:Str):decide ((Sum.inr a:Key)=Sum.inr b)=decide (a=b):=by
 by_cases e:a=b
 .subst e;simp
 .have h:¬(Sum.inr a:Key)=Sum.inr b:=λq=>e (Sum.inr.inj q);rw[decide_eq_false h,decide_eq_false e]
theorem Mp (a:Int)(b:Str):decide ((Sum.inl a:Key)=Sum.inr b)=false:=decide_eq_false (λq=>nomatch q)
theorem Kr (a:Str)(b:Int):decide ((Sum.inr a:Key)=Sum.inl b)=false:=decide_eq_false (λq=>nomatch q)
def aR (prog:Program)(w:World):PySem.KeyKind prog w Key where
 is:=oa
 hash:=OX w
 inj:=λv a b ha hb=>by
  rcases cZ ha with⟨i,t,rfl,rfl⟩|⟨x,t,rfl,rfl⟩
  .rcases cZ hb with⟨j,u,rfl,e⟩|⟨y,u,rfl,e⟩
   .injection e with e1 _;rw[e1]
   .exact nomatch e
  .rcases cZ hb with⟨j,u,rfl,e⟩|⟨y,u,rfl,e⟩
   .exact nomatch e
   .injection e with e1 _;rw[e1]
 byValue:=λk v h=>by rcases cZ h with⟨i,t,rfl,rfl⟩|⟨x,t,rfl,rfl⟩<;>rfl
 pyHash:=λhv h=>by
  rcases cZ hv with⟨i,t,rfl,rfl⟩|⟨x,t,rfl,rfl⟩
  .exact wpAny_pyHash_int h
  .exact wpAny_pyHash_str h
 eqBool:=λhu hv h=>by
  rcases cZ hu with⟨i,t,rfl,rfl⟩|⟨x,t,rfl,rfl⟩
  .rcases cZ hv with⟨j,u,rfl,rfl⟩|⟨y,u,rfl,rfl⟩
   .rw[K5] at h;exact wpAny_eqBool_int h
   .rw[Mp] at h;exact SeqAt.EqAt.int_str i t y u _ _ _ _ h
  .rcases cZ hv with⟨j,u,rfl,rfl⟩|⟨y,u,rfl,rfl⟩
   .rw[Kr] at h;exact SeqAt.EqAt.str_int x t j u _ _ _ _ h
   .rw[Ld] at h;exact wpAny_eqBool_str h
 «strs»:=λk x t v h=>by
  rcases cZ h with⟨i,u,rfl,e⟩|⟨y,u,rfl,e⟩
  .exact nomatch e
  .injection e with e1 _;subst e1;cases v<;>rfl
theorem yg (prog:Program)(w:World)(i:Int)(t:Tok):(aR prog w).is (.inl i) (.int i t)=true:=Df i t
theorem xU (prog:Program)(w:World)(x:Str)(t:Tok):(aR prog w).is (.inr x) (.str x t)=true:=BA x t
inductive V where
 | aj | bl (b:Bool) | int (i:Int) | str (x:Str) | pH (b:Array UInt8) | sf (b:UInt64) | ref (a:Addr) | ty (n:String)
 deriving DecidableEq
def RelV:V->Value->Prop
 | .aj,u=>u=Value.none
 | .bl b,u=>u=Value.bool b
 | .int i,u=>∃t,u=Value.int i t
 | .str x,u=>∃t,u=Value.str x t
 | .pH b,u=>∃t,u=Value.bytes b t
 | .sf b,u=>∃t,u=Value.float b t
 | .ref a,u=>u=Value.ref a
 | .ty n,u=>u=Value.type n
abbrev Vals:List V->List Value->Prop:=Paired RelV
theorem Vals.length {xs:List V}{us:List Value}(r:Vals xs us):xs.length=us.length:=Paired.length r
theorem Vals.get:∀{xs:List V} {us:List Value} {i:Nat} {x:V},Vals xs us->xs[i]?=some x->∃u,us[i]?=some u/\RelV x u
 | _,_,_,_,.nil,e=>by simp at e
 | _,_,0,_,.cons r _,e=>by simp at e;subst e;exact⟨_,rfl,r⟩
 | _,_,i+1,x,.cons _ t,e=>by obtain⟨u,h1,h2⟩:=Vals.get (i:=i) (x:=x) t (by simpa using e);exact⟨u,by simpa using h1,h2⟩
theorem Vals.set {x:V}{u:Value}(r:RelV x u):∀{xs:List V} {us:List Value} (i:Nat),Vals xs us->Vals (xs.set i x) (us.set i u)
 | _,_,_,.nil=>.nil
 | _,_,0,.cons _ t=>.cons r t
 | _,_,i+1,.cons q t=>.cons q (Vals.set r i t)
theorem Vals.append:∀{xs ys:List V} {us ws:List Value},Vals xs us->Vals ys ws->Vals (xs++ys) (us++ws)
 | _,_,_,_,.nil,s=>s
 | _,_,_,_,.cons r t,s=>.cons r (Vals.append t s)
theorem Vals.take:∀{xs:List V} {us:List Value} (n:Nat),Vals xs us->Vals (xs.take n) (us.take n)
 | _,_,0,_=>.nil
 | _,_,_+1,.nil=>.nil
 | _,_,n+1,.cons r t=>.cons r (Vals.take n t)
theorem Vals.drop:∀{xs:List V} {us:List Value} (n:Nat),Vals xs us->Vals (xs.drop n) (us.drop n)
 | _,_,0,r=>r
 | _,_,_+1,.nil=>.nil
 | _,_,n+1,.cons _ t=>Vals.drop n t
def fD:Option V->Option Value->Prop
 | some v,some u=>RelV v u
 | none,none=>True
 | _,_=>False
def KV {κ:Type}:List (κ×V)->List (κ×Value)->Prop:=Paired λ(p:κ×V) (q:κ×Value)=>p.1=q.1/\RelV p.2 q.2
def kV:Key->V
 | .inl i=>.int i
 | .inr x=>.str x
inductive HO where
 | lst (xs:List V)
 | tup (xs:List V)
 | dK (af:List (Key×V)) | dT (af:List (List Key×V))
 | set (S:Int->Bool) (n:Nat)
 | ins (C dx:Addr) (fs:List (Str×V))
 | own (x:Addr)
 | xd (fs:List (Str×V))
 | met (f x:Addr)
 | rng (lo hi:Int)
 | bQ (o:Obj) (u:HO)
 | gu (ps:Array Value)
 | ext (φ:Heap->Prop)
abbrev Hp:=Addr->Option HO
def upd (H:Hp)(a:Addr)(o:HO):Hp:=λb=>if b=a then some o else H b
theorem az {H:Hp}{a:Addr}{o:HO}:upd H a o a=some o:=by unfold upd;rw[if_pos rfl]
theorem ax {H:Hp}{a b:Addr}{o:HO}(h:b≠a):upd H a o b=H b:=by unfold upd;rw[if_neg h]
theorem ib {H:Hp}{a b:Addr}{o u:HO}(h:H a=some o)(h':H b=some u)(d:o≠u):a≠b:=by intro e;subst e;rw[h] at h';exact d (Option.some.inj h')
theorem bC {H:Hp}{a b:Addr}{o:HO}(h:H a=some o)(h':H b=none):a≠b:=by intro e;subst e;rw[h] at h';cases h'
section
variable (P:Program)(w:World)
def aV (H:Hp)(h:Heap)(a:Addr):HO->Prop
 | .lst xs=>xs.length<=sizeLine/\∃(ai:List Value) (n:Nat),Vals xs ai/\h.get? a=some { cls:=.type "list",data:=.seq ai.toArray n }
 | .tup xs=>xs.length<=sizeLine/\∃ai:List Value,Vals xs ai/\IsTup h a ai.toArray
 | .dK af=>af.length<=sizeLine/\(a==sysModules)=false/\∃vs,KV af vs/\h.DictOf (aR P w) a vs
 | .dT af=>af.length<=sizeLine/\(a==sysModules)=false/\∃xs:List (List Key×Addr×Value),
  Paired (λ(p:List Key×V) (q:List Key×Addr×Value)=>p.1=q.1/\H q.2.1=some (.tup (p.1.map kV))/\RelV p.2 q.2.2) af xs /\
  ∃o es ep,h.get? a=some o/\o.ExactDict/\o.data = .dict es ep/\es.toList=xs.map (entryOfKey (tupleKind (aR P w)))/\(xs.map (·.1)).Nodup
 | .set S n=>h.SetOf (intKind P w) a S n
 | .ins C dx fs=>H dx=some (.own a)/\fs.length<=1000/\dx≠a/\h.get? a=some (W.instObj C dx) /\
  ∃mA,h.Ns1 dx mA/\(∀f,fD (fs.lookup f) (mA f))/\PySem.Within mA (fs.map (·.1))
 | .own _=>∃o,h.get? a=some o
 | .xd fs=>∃mA,h.Ns1 a mA/\∀f,fD (fs.lookup f) (mA f)
 | .rng lo hi=>∃t u v,h.get? a=some { cls:=.type "range",data:=.fields #[.int lo t,.int hi u,.int 1 v] }
 | .bQ o u=>h.get? a=some o/\aV H h a u
 | .gu ps=>h.get? a=some { cls:=.none,data:=.fields ps }
 | .met f x=>h.get? a=some (W.methodObj (.ref f) (.ref x))
 | .ext φ=>φ h/\(∃o,h.get? a=some o)/\∀h1 h2:Heap,φ h1->(∀o,h1.get? a=some o->h2.get? a=some o)->φ h2
def aL (H:Hp)(h:Heap):Prop:=∀a o,H a=some o->aV P w H h a o
end
section
variable {P:Program}{w:World}{H H':Hp}{h h':Heap}{a:Addr}{o:HO}
theorem aV.lt (x:aV P w H h a o):a<h.objs.size:=by
 cases o with
 | lst xs=>obtain⟨_,_,_,_,e⟩:=x;exact Heap.lt_size e
 | tup xs=>obtain⟨_,_,_,p⟩:=x;exact p.lt
 | dK af=>obtain⟨_,_,_,_,o,_,_,e,_⟩:=x;exact Heap.lt_size e
 | dT af=>obtain⟨_,_,_,_,o,_,_,e,_⟩:=x;exact Heap.lt_size e
 | set S n=>obtain⟨o,_,_,_,e,_⟩:=x;exact Heap.lt_size e
 | ins C dx fs=>obtain⟨_,_,_,e,_⟩:=x;exact Heap.lt_size e
 | own y=>obtain⟨_,e⟩:=x;exact Heap.lt_size e
 | xd fs=>obtain⟨_,⟨_,_,_,e,_⟩,_⟩:=x;exact Heap.lt_size e
 | rng lo hi=>obtain⟨_,_,_,e⟩:=x;exact Heap.lt_size e
 | bQ ob u=>obtain⟨e,_⟩:=x;exact Heap.lt_size e
 | gu ps=>exact Heap.lt_size (show h.get? a=some _ from x)
 | met f y=>exact Heap.lt_size (show h.get? a=some _ from x)
 | ext φ=>obtain⟨_,⟨_,e⟩,_⟩:=x;exact Heap.lt_size e
theorem Paired.nS {α β:Type}{F G:α->β->Prop}:∀{l₁:List α} {l₂:List β},Paired F l₁ l₂->(∀a b,F a b->G a b)->Paired G l₁ l₂
 | _,_,.nil,_=>.nil
 | _,_,.cons r t,f=>.cons (f _ _ r) (Paired.nS t f)
theorem aV.ia (x:aV P w H h a o)(k:∀b u,(b=a\/H b=some (.own a))->h.get? b=some u->h'.get? b=some u)
 (ho:∀b,H b=some (.own a)->H' b=some (.own a)) (ht:∀b xs,H b=some (.tup xs)->H' b=some (.tup xs)):aV P w H' h' a o:=by
 induction o with
 | lst xs=>obtain⟨z,ai,n,r,e⟩:=x;exact⟨z,ai,n,r,k _ _ (.inl rfl) e⟩
 | tup xs=>obtain⟨z,ai,r,ob,e,c⟩:=x;exact⟨z,ai,r,ob,k _ _ (.inl rfl) e,c⟩
 | dK af=>obtain⟨z,y,vs,r,ob,es,ep,e,c⟩:=x;exact⟨z,y,vs,r,ob,es,ep,k _ _ (.inl rfl) e,c⟩
 | dT af=>obtain⟨z,y,xs,r,ob,es,ep,e,c⟩:=x;exact⟨z,y,xs,Paired.nS r λp q z=>⟨z.1,ht _ _ z.2.1,z.2.2⟩,ob,es,ep,k _ _ (.inl rfl) e,c⟩
 | set S n=>obtain⟨ob,es,ep,t,e,c⟩:=x;exact⟨ob,es,ep,t,k _ _ (.inl rfl) e,c⟩
 | ins C dx fs=>obtain⟨d,z,ne,e,mA,⟨od,es,ep,e2,c⟩,r⟩:=x;exact⟨ho _ d,z,ne,k _ _ (.inl rfl) e,mA,⟨od,es,ep,k _ _ (.inr d) e2,c⟩,r⟩
 | own y=>obtain⟨ob,e⟩:=x;exact⟨ob,k _ _ (.inl rfl) e⟩
 | xd fs=>obtain⟨mA,⟨od,es,ep,e,c⟩,r⟩:=x;exact⟨mA,⟨od,es,ep,k _ _ (.inl rfl) e,c⟩,r⟩
 | rng lo hi=>obtain⟨t,u,v,e⟩:=x;exact⟨t,u,v,k _ _ (.inl rfl) e⟩
 | bQ ob u ih=>obtain⟨e,q⟩:=x;exact⟨k _ _ (.inl rfl) e,ih q⟩
 | gu ps=>have e:h.get? a=some { cls:=.none,data:=.fields ps }:=x;show h'.get? a=some { cls:=.none,data:=.fields ps };exact k a _ (.inl rfl) e
 | met f y=>have e:h.get? a=some (W.methodObj (.ref f) (.ref y)):=x;show h'.get? a=some (W.methodObj (.ref f) (.ref y));exact k a _ (.inl rfl) e
 | ext φ=>obtain⟨p,⟨o,e⟩,st⟩:=x;exact⟨st _ _ p λo q=>k _ _ (.inl rfl) q,⟨o,k _ _ (.inl rfl) e⟩,st⟩
theorem aL.lt (x:aL P w H h)(e:H a=some o):a<h.objs.size:=(x a o e).lt
theorem aL.fresh (x:aL P w H h)(e:h.objs.size<=a):H a=none:=by
 cases q:H a with
 | none=>rfl
 | some u=>exact absurd (Nat.lt_of_lt_of_le (x.lt q) e) (Nat.lt_irrefl _)
theorem aL.kept (x:aL P w H h)(k:∀b u,h.get? b=some u->h'.get? b=some u):aL P w H h':=λa o e=>
 (x a o e).ia (λb u _ q=>k b u q) (λ_ q=>q) λ_ _ q=>q
theorem aL.laid (x:aL P w H h)(k:∀b u,h.get? b=some u->h'.get? b=some u)(hp:h.objs.size<=a)(new:aV P w (upd H a o) h' a o):aL P w (upd H a o) h':=λb u e=>by
 have hn:=x.fresh hp
 by_cases hb:b=a
 .subst hb;rw[az] at e;cases e;exact new
 .rw[ax hb] at e;exact(x b u e).ia (λc v _ q=>k c v q) (λc q=>by rw[ax (bC q hn)];exact q) λc xs q=>by rw[ax (bC q hn)];exact q
end
def Rd (H:Hp)(a:Addr)(u:HO):Prop:=H a=some u\/∃o,H a=some (.bQ o u)
theorem Rd.ok {P:Program}{w:World}{H:Hp}{h:Heap}{a:Addr}{u:HO}(r:Rd H a u)(x:aL P w H h):aV P w H h a u:=by
 rcases r with r | ⟨o,r⟩
 .exact x a u r
 .obtain⟨_,q⟩:=x a _ r;exact q
def yx:Option HO->Prop
 | some (.lst _)=>True
 | some (.dK _)=>True
 | some (.dT _)=>True
 | some (.set _ _)=>True
 | some (.ins _ _ _)=>True
 | some (.ext _)=>True
 | _=>False
section
variable {P:Program}{w:World}{H:Hp}{h h':Heap}{x e:Addr}{o':HO}
theorem aL.write (ok:aL P w H h)(mu:yx (H x))(he:e=x\/H e=some (.own x))(k:∀b u,b≠e->h.get? b=some u->h'.get? b=some u)(zk:∃u,h'.get? e=some u)
 (new:aV P w (upd H x o') h' x o'):aL P w (upd H x o') h':=λb u q=>by
 have MV:∀c y,H c=some (.own y)->c≠x:=λc y r z=>by subst z;rw[r] at mu;exact mu
 have ntup:∀c xs,H c=some (.tup xs)->c≠x:=λc xs r z=>by subst z;rw[r] at mu;exact mu
 by_cases hb:b=x
 .subst hb;rw[az] at q;cases q;exact new
 .rw[ax hb] at q
  by_cases xw:b=e
  .have q':H b=some (.own x):=by
    rcases he with z | z
    .exact absurd (xw.trans z) hb
    .rw[xw];exact z
   rw[q] at q';cases q';obtain⟨v,hv⟩:=zk;exact⟨v,by rw[xw];exact hv⟩
  .refine(ok b u q).ia (λc v hc r=>k c v ?_ r) (λc r=>by rw[ax (MV c b r)];exact r) λc xs r=>by rw[ax (ntup c xs r)];exact r
   rcases hc with rfl | hc
   .exact xw
   .rintro rfl;rcases he with z | z
    .exact MV c b hc z
    .rw[hc] at z;cases z;exact hb rfl
end
structure Un (fs ex:List Addr)(H H':Hp)(h h':Heap):Prop where
 keep:∀b o,h.get? b=some o->H b=none->b∉fs->b∉ex->h'.get? b=some o
 slot:∀b o,h.get? b=some o->H b=none->b∈fs->b∉ex->∃sl,h'.get? b=some { o with slots:=sl }
 free:∀b o,h.get? b=some o->H b=none->b∉ex->H' b=none
 there:∀b o,h.get? b=some o->b∉ex->∃o',h'.get? b=some o'
 dS:∀b xs,H b=some (.tup xs)->H' b=some (.tup xs)
 da:∀b o u,H b=some (.bQ o u)->H' b=some (.bQ o u)
 jl:∀b ps,H b=some (.gu ps)->∃more,H' b=some (.gu (ps++more))
section
variable {fs fs' ex ex':List Addr}{H H1 H2:Hp}{h h1 h2 h':Heap}{a x e:Addr}{o:HO}
theorem Un.any (u:Un fs ex H H1 h h1){b:Addr}{ob:Obj}(q:h.get? b=some ob)(n:H b=none)(hx:b∉ex):∃sl,h1.get? b=some { ob with slots:=sl }:=by
 by_cases hb:b∈fs
 .exact u.slot b ob q n hb hx
 .exact⟨ob.slots,u.keep b ob q n hb hx⟩
theorem Un.kept (k:∀b u,h.get? b=some u->h'.get? b=some u):Un fs ex H H h h':=
 ⟨λb ob q _ _ _=>k b ob q,λb ob q _ _ _=>⟨ob.slots,k b ob q⟩,λ_ _ _ n _=>n,λb ob q _=>⟨ob,k b ob q⟩,λ_ _ q=>q,λ_ _ _ q=>q,λ_ ps q=>⟨#[],by rw[q];simp⟩⟩
theorem Un.refl:Un fs ex H H h h:=Un.kept λ_ _ q=>q
theorem Un.laid (k:∀b u,h.get? b=some u->h'.get? b=some u)(hp:h.objs.size<=a)(hn:H a=none):Un fs ex H (upd H a o) h h' where
 keep:=λb u q _ _ _=>k b u q
 slot:=λb u q _ _ _=>⟨u.slots,k b u q⟩
 free:=λb u q n _=>by rw[ax (Nat.ne_of_lt (Nat.lt_of_lt_of_le (Heap.lt_size q) hp))];exact n
 there:=λb u q _=>⟨u,k b u q⟩
 dS:=λb xs q=>by rw[ax (bC q hn)];exact q
 da:=λb u xs q=>by rw[ax (bC q hn)];exact q
 jl:=λb ps q=>⟨#[],by rw[ax (bC q hn),q];simp⟩
theorem Un.write (mu:yx (H x))(he:e=x\/H e=some (.own x))(k:∀b u,b≠e->h.get? b=some u->h'.get? b=some u)(zk:∃u,h'.get? e=some u):Un fs ex H (upd H x o) h h':=by
 have hx:∀b,H b=none->b≠x:=λb n z=>by subst z;rw[n] at mu;exact mu
 have hb:∀b,H b=none->b≠e:=λb n z=>by
  subst z;rcases he with r | r
  .exact hx b n r
  .rw[n] at r;cases r
 have hm:∀b u,H b=some u->¬yx (some u)->b≠x:=λb u q nm z=>by subst z;rw[q] at mu;exact nm mu
 refine⟨λb u q n _ _=>k b u (hb b n) q,λb u q n _ _=>⟨u.slots,k b u (hb b n) q⟩,λb u q n _=>by rw[ax (hx b n)];exact n,λb u q _=>?_,
  λb xs q=>by rw[ax (hm b _ q λz=>z)];exact q,λb u xs q=>by rw[ax (hm b _ q λz=>z)];exact q,λb ps q=>⟨#[],by rw[ax (hm b _ q λz=>z),q];simp⟩⟩
 by_cases xw:b=e
 .subst xw;exact zk
 .exact⟨u,k b u xw q⟩
end
def GL (h:Heap)(H:Hp):List Addr:=(List.range h.objs.size).filter λa=>(H a).isSome
def kH (h:Heap)(H:Hp):Heap:=W.hideAll h (GL h H)
theorem Dn (h:Heap)(H:Hp):(kH h H).objs.size=h.objs.size:=W.hideAll_size _ _
theorem FQ {h:Heap}{H:Hp}{b:Addr}{o:Obj}(e:h.get? b=some o)(n:H b=none):(kH h H).get? b=some o:=
 W.hideAll_get _ e λhm=>by have q:(H b).isSome=true:=(List.mem_filter.mp hm).2;rw[n] at q;simp at q
theorem Jc {h:Heap}{H:Hp}{b:Addr}{o:Obj}(e:(kH h H).get? b=some o):h.get? b=some o/\H b=none:=by
 have e':h.get? b=some o:=W.of_hideAll (GL h H) e;refine⟨e',?_⟩;cases q:H b with
 | none=>rfl
 | some x=>have hm:b∈GL h H:=List.mem_filter.mpr ⟨List.mem_range.mpr (Heap.lt_size e'),by simp[q]⟩;have z:(kH h H).get? b=none:=W.hideAll_none (GL h H) hm;rw[z] at e;cases e
def HU (g h:Heap)(L:Addr):List (Addr×Obj):=(List.range h.objs.size).filterMap λa=>if a=L\/(g.get? a).isSome=true then none else (h.get? a).map λo=>(a,o)
def rest (g h:Heap)(L d:Addr):List (Addr×Obj):=(HU g h L).filter λp=>decide (p.1≠d)
structure Mod (K:Fg)(mg:Str->Option Value)(base:Heap):Prop where
 jg:K.In base
 glob:base.Ns mainGlobals mg
 blt:∃mb,base.Ns builtinsNs mb/\∀x:Str,x ≠ "__name__"->mb x=bootBuiltins x
 nolimit:base.NoLimit
structure Cx where
 prog:Program
 w:World
 K:Fg
 mg:Str->Option Value
 base:Heap
 A:Around
 N:List Str
 s₀:Sh
 H₀:Hp
 env:Env
 outer:List Env
 stack:List Env
 ex:List Addr
 fn:Str->Bool
 calm:Bool
 pn:List (Addr×Obj)
 xe:Value->Sh->Prop
def lr (l:List Env):List Addr:=l.filterMap (·.frame)
abbrev Cx.fs (X:Cx):List Addr:=lr X.outer
def tH (sc:Scope)(x:Str):Prop:=sc.names.lookup x=some .local\/sc.names.lookup x=some .cell\/sc.names.lookup x=some .free
def Loc (sc:Scope)(x:Str):Prop:=sc.names.lookup x=some .local\/sc.names.lookup x=some .cell
def Look (env:Env)(h:Heap)(m:Str->Option Value)(x:Str)(u:Value):Prop:=
 (env.kindOf x=some .local/\m x=some u)\/((env.kindOf x=some .cell\/env.kindOf x=some .free)/\∃c,env.cells.lookup x=some c/\h.IsCell c (some u))
structure Cx.Ok (X:Cx):Prop where
 mod:Mod X.K X.mg X.base
 kind:X.env.scope.kind = .function
 glob:X.env.globals=mainGlobals
 blt:X.env.builtins=builtinsNs
 above:X.s₀.heap.objs.size<=X.env.locals
 inj:∀x y c,X.env.cells.lookup x=some c->X.env.cells.lookup y=some c->x=y
 has:∀x,(X.env.kindOf x=some .cell\/X.env.kindOf x=some .free)->∃c,X.env.cells.lookup x=some c
 zl:∀x c,X.fn x=true->X.env.cells.lookup x=some c->X.s₀.heap.objs.size<=c
 hd:X.calm=true->X.A.handled=none
 frames:X.A.frames=some X.stack
 Dt:X.stack=X.outer\/(X.stack=X.env::X.outer/\X.env.frame=some X.env.locals)
 exf:∀b∈X.ex,b≠X.env.locals/\∀x c,X.env.cells.lookup x=some c->c≠b
 bs:∀b o,X.base.get? b=some o->X.s₀.heap.get? b=some o/\X.H₀ b=none
 pI:X.base.objs.size<=X.s₀.heap.objs.size
 tf:∀b o,X.base.get? b=some o->b∉X.ex
 xx:∀b∈X.ex,b∉X.fs
 eB:X.s₀.heap.FunFrames X.base X.outer
 uD:∀b∈X.fs,X.H₀ b=none
structure Inv (X:Cx)(pins:List (Addr×Obj))(σ:List (Option V))(H:Hp)(s:Sh):Prop where
 ok:X.Ok
 os:s.os=X.s₀.os
 bare:AllBare s.gens
 base:Un X.fs X.ex X.H₀ H X.s₀.heap s.heap
 loc:∃m,s.heap.Ns X.env.locals m/\∀(i:Nat) (x:Str) (v:V),X.N[i]?=some x->σ[i]?=some (some v)->tH X.env.scope x->∃u,RelV v u/\Look X.env s.heap m x u
 cell:∀x c,X.env.cells.lookup x=some c->∃v,s.heap.IsCell c v
 free:H X.env.locals=none
 eR:∀x c,X.env.cells.lookup x=some c->H c=none
 pin:∀p∈X.pn++pins,s.heap.get? p.1=some p.2/\H p.1=none/\p.1≠X.env.locals/\p.1∉X.fs/\∀v,p.2.data ≠ .cell v
 aw:aL X.prog X.w H s.heap
 len:σ.length=X.N.length
section
variable {X:Cx}{pins:List (Addr×Obj)}{σ:List (Option V)}{H H':Hp}{s:Sh}{h':Heap}
theorem Cx.Ok.Pe (ok:X.Ok){b:Addr}{o:Obj}(e:X.base.get? b=some o):b∉X.fs:=λhb=>by have:=(ok.eB.mem hb).1;rw[e] at this;cases this
theorem Inv.bs (I:Inv X pins σ H s):∀b o,X.base.get? b=some o->s.heap.get? b=some o/\H b=none:=λb o e=>
 ⟨I.base.keep b o (I.ok.bs b o e).1 (I.ok.bs b o e).2 (I.ok.Pe e) (I.ok.tf b o e),I.base.free b o (I.ok.bs b o e).1 (I.ok.bs b o e).2 (I.ok.tf b o e)⟩
theorem Inv.bk (I:Inv X pins σ H s):∀b o,X.base.get? b=some o->s.heap.get? b=some o:=λb o e=>(I.bs b o e).1
theorem Inv.mod (I:Inv X pins σ H s):Mod X.K X.mg X.base:=I.ok.mod
theorem Inv.eh (I:Inv X pins σ H s):X.K.In s.heap:=I.ok.mod.jg.keeps I.bk
theorem Inv.lt (I:Inv X pins σ H s):X.env.locals<s.heap.objs.size:=let ⟨_,hn,_⟩:=I.loc;hn.lt
theorem Inv.sz (I:Inv X pins σ H s):X.s₀.heap.objs.size<=s.heap.objs.size:=Nat.le_trans I.ok.above (Nat.le_of_lt I.lt)
theorem Inv.O1 (I:Inv X pins σ H s){a:Addr}(h:s.heap.objs.size<=a):a∉X.fs:=λhb=>by obtain⟨_,o,ho,_⟩:=I.ok.eB.mem hb;exact absurd (Nat.lt_of_lt_of_le (Heap.lt_size ho) (Nat.le_trans I.sz h)) (Nat.lt_irrefl _)
theorem Inv.se (I:Inv X pins σ H s):∀x c,X.env.cells.lookup x=some c->c≠X.env.locals:=λx c e z=>by obtain⟨v,o,ho,hd⟩:=I.cell x c e;obtain⟨m,⟨o',es,ep,ho',jo,_⟩,_⟩:=I.loc;rw[z,ho'] at ho;cases ho;rw[jo] at hd;cases hd
theorem Inv.eB (I:Inv X pins σ H s):s.heap.FunFrames X.base X.outer:=by
 have all:∀(l:List Env),(∀b∈lr l,b∈X.fs)->X.s₀.heap.FunFrames X.base l->s.heap.FunFrames X.base l:=by
  intro l
  induction l with
  | nil=>intro _ _;trivial
  | cons env r ih=>intro hs hl;obtain⟨hk,⟨L,o,hf,hn,ho,hd⟩,hr⟩:=hl;have hL:L∈X.fs:=hs L (by unfold lr;rw[List.filterMap_cons,hf];exact List.mem_cons_self);obtain⟨sl,e⟩:=I.base.slot L o ho (I.ok.uD L hL) hL λz=>I.ok.xx L z hL;exact⟨hk,⟨L,_,hf,hn,e,hd⟩,ih (λb hb=>hs b (by unfold lr;rw[List.filterMap_cons,hf];exact List.mem_cons_of_mem _ hb)) hr⟩
 exact all X.outer (λ_ hb=>hb) I.ok.eB
theorem Inv.stack (I:Inv X pins σ H s):s.heap.FunFrames X.base X.stack:=by
 rcases I.ok.Dt with e | ⟨e,hf⟩
 .rw[e];exact I.eB
 .rw[e];obtain⟨m,hn,_⟩:=I.loc;refine .cons (by rw[I.ok.kind];decide) hf hn ?_ I.eB;exact Heap.get?_none_of_le (Nat.le_trans I.ok.pI I.ok.above)
theorem Inv.qJ (I:Inv X pins σ H s):∀b∈lr X.stack,b∈X.env.locals::X.fs:=λb hb=>by
 rcases I.ok.Dt with e | ⟨e,hf⟩
 .rw[e] at hb;exact List.mem_cons_of_mem _ hb
 .rw[e] at hb;unfold lr at hb;rw[List.filterMap_cons,hf] at hb;exact hb
theorem Inv.zj (I:Inv X pins σ H s):∀b∈lr X.stack,H b=none:=λb hb=>by
 rcases List.mem_cons.mp (I.qJ b hb) with e | hb
 .rw[e];exact I.free
 .obtain⟨_,o,ho,_⟩:=I.ok.eB.mem hb;exact I.base.free b o ho (I.ok.uD b hb) λz=>I.ok.xx b z hb
theorem Inv.step {g':Array GenState}{t':Nat}{d':Drawn}{ch:List Addr}(I:Inv X pins σ H s)
 (pJ:∀b∈ch,(b∈X.ex\/X.s₀.heap.objs.size<=b)/\b≠X.env.locals/\(∀x c,X.env.cells.lookup x=some c->c≠b)/\∀p∈X.pn++pins,p.1≠b)
 (keep:∀b o,b≠X.env.locals->b∉X.fs->b∉ch->s.heap.get? b=some o->H b=none->h'.get? b=some o)
 (slot:∀b o,b≠X.env.locals->b∈X.fs->b∉ch->s.heap.get? b=some o->H b=none->∃sl,h'.get? b=some { o with slots:=sl }) (free:∀b o,b∉ch->s.heap.get? b=some o->H b=none->H' b=none)
 (there:∀b o,b∉ch->s.heap.get? b=some o->∃o',h'.get? b=some o')
 (dS:∀b xs,H b=some (.tup xs)->H' b=some (.tup xs)) (da:∀b o u,H b=some (.bQ o u)->H' b=some (.bQ o u)) (jl:∀b ps,H b=some (.gu ps)->∃more,H' b=some (.gu (ps++more)))
 (ns:∀m,s.heap.Ns X.env.locals m->h'.Ns X.env.locals m) (aw:aL X.prog X.w H' h') (hg:AllBare g'):
 Inv X pins σ H' { s with heap:=h',gens:=g',drawn:=d',toks:=t' }:=by
 have neL:∀b o,X.s₀.heap.get? b=some o->b≠X.env.locals:=λb o e=>Nat.ne_of_lt (Nat.lt_of_lt_of_le (Heap.lt_size e) I.ok.above);have neC:∀b o,X.s₀.heap.get? b=some o->b∉X.ex->b∉ch:=λb o e hx hb=>by
  rcases(pJ b hb).1 with z | z
  .exact hx z
  .exact absurd (Nat.lt_of_lt_of_le (Heap.lt_size e) z) (Nat.lt_irrefl _)
 have cellK:∀x c,X.env.cells.lookup x=some c->∀v,s.heap.IsCell c v->h'.IsCell c v:=λx c e v ⟨o,ho,hd⟩=>by
  have Du:c∉ch:=λz=>(pJ c z).2.2.1 x c e rfl
  by_cases hc:c∈X.fs
  .obtain⟨sl,q⟩:=slot c o (I.se x c e) hc Du ho (I.eR x c e);exact⟨_,q,hd⟩
  .exact⟨o,keep c o (I.se x c e) hc Du ho (I.eR x c e),hd⟩
 refine⟨I.ok,I.os,hg,⟨λb o e n hb hx=>?_,λb o e n hb hx=>?_,λb o e n hx=>?_,λb o e hx=>?_,λb xs e=>dS b xs (I.base.dS b xs e),λb o xs e=>da b o xs (I.base.da b o xs e),λb ps e=>?_⟩,?_,λx c e=>?_,?_,λx c e=>?_,λp hp=>?_,aw,I.len⟩
 .exact keep b o (neL b o e) hb (neC b o e hx) (I.base.keep b o e n hb hx) (I.base.free b o e n hx)
 .obtain⟨sl,e1⟩:=I.base.slot b o e n hb hx;obtain⟨sl',e2⟩:=slot b _ (neL b o e) hb (neC b o e hx) e1 (I.base.free b o e n hx);exact⟨sl',e2⟩
 .obtain⟨o',e1⟩:=I.base.there b o e hx;exact free b o' (neC b o e hx) e1 (I.base.free b o e n hx)
 .obtain⟨o',e1⟩:=I.base.there b o e hx;exact there b o' (neC b o e hx) e1
 .obtain⟨m1,e1⟩:=I.base.jl b ps e;obtain⟨m2,e2⟩:=jl b _ e1;exact⟨m1++m2,by rw[e2,Array.append_assoc]⟩
 .obtain⟨m,hn,hl⟩:=I.loc;refine⟨m,ns m hn,λi x v e1 e2 e3=>?_⟩;obtain⟨u,r,l⟩:=hl i x v e1 e2 e3;refine⟨u,r,?_⟩;rcases l with l | ⟨k,c,e,z⟩
  .exact .inl l
  .exact .inr ⟨k,c,e,cellK x c e _ z⟩
 .obtain⟨v,z⟩:=I.cell x c e;exact⟨v,cellK x c e v z⟩
 .obtain⟨m,⟨o,_,_,ho,_⟩,_⟩:=I.loc;exact free _ o (λz=>(pJ _ z).2.1 rfl) ho I.free
 .obtain⟨v,o,ho,hd⟩:=I.cell x c e;exact free c o (λz=>(pJ c z).2.2.1 x c e rfl) ho (I.eR x c e)
 .obtain⟨e,n,ne,nf,d⟩:=I.pin p hp;have Du:p.1∉ch:=λz=>(pJ p.1 z).2.2.2 p hp rfl;exact⟨keep p.1 p.2 ne nf Du e n,free p.1 p.2 Du e n,ne,nf,d⟩
theorem Inv.un {t':Nat}(I:Inv X pins σ H s)(u:Un X.fs [] H H' s.heap h')(aw:aL X.prog X.w H' h'):Inv X pins σ H' { s with heap:=h',toks:=t' }:=by obtain⟨m,⟨o,es,ep,ho,r⟩,_⟩:=id I.loc;obtain⟨sl,hL⟩:=u.any ho I.free (by simp);exact I.step (g':=s.gens) (d':=s.drawn) (ch:=[]) (λ_ z=>nomatch z) (λb o _ hb _ e n=>u.keep b o e n hb (by simp)) (λb o _ hb _ e n=>u.slot b o e n hb (by simp)) (λb o _ e n=>u.free b o e n (by simp)) (λb o _ e=>u.there b o e (by simp)) u.dS u.da u.jl (λm' hm=>by obtain⟨o',Dv,Dw,ho',r'⟩:=hm;rw[ho] at ho';cases ho';exact⟨_,Dv,Dw,hL,r'⟩) aw I.bare
theorem Inv.call {g':Array GenState}{t':Nat}{d':Drawn}{ch:List Addr}(I:Inv X pins σ H s)(u:Un (lr X.stack) ch H H' s.heap h')(aw:aL X.prog X.w H' h')(hg:AllBare g')
 (pJ:∀b∈ch,(b∈X.ex\/X.s₀.heap.objs.size<=b)/\b≠X.env.locals/\(∀x c,X.env.cells.lookup x=some c->c≠b)/\∀p∈X.pn++pins,p.1≠b):
 Inv X pins σ H' { s with heap:=h',gens:=g',drawn:=d',toks:=t' }:=by
 obtain⟨m,⟨o,es,ep,ho,r⟩,_⟩:=id I.loc;obtain⟨sl,hL⟩:=u.any ho I.free λz=>(pJ _ z).2.1 rfl;exact I.step (ch:=ch) pJ (λb o hL hb hc e n=>u.keep b o e n (λz=>(List.mem_cons.mp (I.qJ b z)).elim hL hb) hc) (λb o _ _ hc e n=>u.any e n hc) (λb o hc e n=>u.free b o e n hc) (λb o hc e=>u.there b o e hc) u.dS u.da u.jl (λm' hm=>by obtain⟨o',Dv,Dw,ho',r'⟩:=hm;rw[ho] at ho';cases ho';exact⟨_,Dv,Dw,hL,r'⟩) aw hg
theorem Inv.turned {t':Nat}{it:Addr}(I:Inv X pins σ H s)(k:∀b o,b≠it->s.heap.get? b=some o->h'.get? b=some o)(hn:H it=none)(hL:it≠X.env.locals)
 (h1:it∈X.ex\/X.s₀.heap.objs.size<=it) (h2:∀x c,X.env.cells.lookup x=some c->c≠it) (h3:∀p∈X.pn++pins,p.1≠it):Inv X pins σ H { s with heap:=h',toks:=t' }:=by
 have nit:∀b u,H b=some u->b≠it:=λb u e z=>by rw[z,hn] at e;cases e
 refine I.step (g':=s.gens) (d':=s.drawn) (ch:=[it]) (λb hb=>?_) (λb o _ _ hc e _=>k b o (λz=>hc (by simp[z])) e) (λb o _ _ hc e _=>⟨o.slots,k b o (λz=>hc (by simp[z])) e⟩) (λ_ _ _ _ n=>n)
  (λb o hc e=>⟨o,k b o (λz=>hc (by simp[z])) e⟩) (λ_ _ e=>e) (λ_ _ _ e=>e) (λb ps e=>⟨#[],by rw[e];simp⟩) (λm hm=>?_) (λb u e=>?_) I.bare
 .have e:b=it:=by simpa using hb
  subst e;exact⟨h1,hL,h2,h3⟩
 .obtain⟨o,es,ep,ho,r⟩:=hm;exact⟨o,es,ep,k _ o (Ne.symm hL) ho,r⟩
 .refine(I.aw b u e).ia (λc v hc q=>k c v ?_ q) (λ_ q=>q) λ_ _ q=>q;rcases hc with z | z
  .rw[z];exact nit b u e
  .exact nit c _ z
theorem Inv.tok (I:Inv X pins σ H s)(t:Nat):Inv X pins σ H { s with toks:=t }:=I.un (h':=s.heap) (t':=t) Un.refl I.aw
theorem Inv.kept {t':Nat}(I:Inv X pins σ H s)(k:∀b u,s.heap.get? b=some u->h'.get? b=some u):Inv X pins σ H { s with heap:=h',toks:=t' }:=I.un (Un.kept k) (I.aw.kept k)
theorem Inv.laid {a:Addr}{o:HO}{t':Nat}(I:Inv X pins σ H s)(k:∀b u,s.heap.get? b=some u->h'.get? b=some u)(hp:s.heap.objs.size<=a)(new:aV X.prog X.w (upd H a o) h' a o):
 Inv X pins σ (upd H a o) { s with heap:=h',toks:=t' }:=I.un (Un.laid k hp (I.aw.fresh hp)) (I.aw.laid k hp new)
theorem Inv.write {x e:Addr}{o:HO}{t':Nat}(I:Inv X pins σ H s)(mu:yx (H x))(he:e=x\/H e=some (.own x))(k:∀b u,b≠e->s.heap.get? b=some u->h'.get? b=some u)(zk:∃u,h'.get? e=some u)
 (new:aV X.prog X.w (upd H x o) h' x o):Inv X pins σ (upd H x o) { s with heap:=h',toks:=t' }:=I.un (Un.write mu he k zk) (I.aw.write mu he k zk new)
theorem Inv.oF {Hb:List (Addr×Obj)}(I:Inv X pins σ H s)(h:∀p∈Hb,s.heap.get? p.1=some p.2/\H p.1=none/\p.1≠X.env.locals/\p.1∉X.fs/\∀v,p.2.data ≠ .cell v):Inv X Hb σ H s:=
 ⟨I.ok,I.os,I.bare,I.base,I.loc,I.cell,I.free,I.eR,λp hp=>(List.mem_append.mp hp).elim (λz=>I.pin p (List.mem_append_left _ z)) (h p),I.aw,I.len⟩
theorem wc {N:List Str}(hN:N.Nodup){i j:Nat}{x:Str}(a:N[i]?=some x)(b:N[j]?=some x):i=j:=by obtain⟨h1,e1⟩:=List.getElem?_eq_some_iff.mp a;obtain⟨h2,e2⟩:=List.getElem?_eq_some_iff.mp b;exact(List.getElem_inj hN).mp (e1.trans e2.symm)
theorem tD {M:Model}{A:Around}{E:Value->Sh->Prop}{i:Nat}{x:Str}{v:V}{u:Value}{Q:Unit->Sh->Prop}(I:Inv X pins σ H s)(hN:X.N.Nodup)(hi:X.N[i]?=some x)(hx:Loc X.env.scope x)(r:RelV v u)
 (h:∀s',Inv X pins (σ.set i (some v)) H s'->(∃a,Heap.SameBut a s.heap s'.heap/\(a=X.env.locals\/X.env.cells.lookup x=some a))->Q () s') (hf:X.fn x=true\/X.env.scope.names.lookup x=some .local:=by first | exact .inl rfl | exact .inr rfl | assumption):wpAny M A (storeName X.env x u) Q E s:=by
 obtain⟨m,hn,hl⟩:=id I.loc;have hcls:(X.env.scope.kind == .class||(X.env.scope.kind == .module&&X.env.locals != X.env.globals))=false:=by rw[I.ok.kind];rfl
 have hiσ:i<σ.length:=by rw[I.len];exact(List.getElem?_eq_some_iff.mp hi).1
 have se:=I.se;have tracked:∀{a:Addr} {h':Heap},(∃o,s.heap.get? a=some o/\H a=none)->Heap.SameBut a s.heap h'->aL X.prog X.w H h':=λ{a h'} ha hs b ob e=>by
  obtain⟨_,_,Hc⟩:=ha;refine(I.aw b ob e).ia (λc w' hc q=>(hs.2 c ?_).trans q) (λ_ q=>q) λ_ _ q=>q;rintro rfl;rcases hc with rfl | hc
  .rw[Hc] at e;cases e
  .rw[Hc] at hc;cases hc
 rcases hx with hk | hk
 .refine wpAny_storeName_local hk hn (λh' hn' hs=>?_) hcls;obtain⟨oL,_,_,hoL,_⟩:=id hn;refine h _ ⟨I.ok,I.os,I.bare,⟨λb o e n hb hx=>?_,λb o e n hb hx=>?_,I.base.free,λb o e hx=>?_,I.base.dS,I.base.da,I.base.jl⟩,⟨_,hn',λj y v' e1 e2 e3=>?_⟩,λy c e=>?_,I.free,I.eR,λp hp=>?_,tracked ⟨oL,hoL,I.free⟩ hs,by simpa using I.len⟩ ⟨_,hs,.inl rfl⟩
  .exact(hs.2 b (Nat.ne_of_lt (Nat.lt_of_lt_of_le (Heap.lt_size e) I.ok.above))).trans (I.base.keep b o e n hb hx)
  .obtain⟨sl,e1⟩:=I.base.slot b o e n hb hx;exact⟨sl,(hs.2 b (Nat.ne_of_lt (Nat.lt_of_lt_of_le (Heap.lt_size e) I.ok.above))).trans e1⟩
  .obtain⟨o',e1⟩:=I.base.there b o e hx;exact⟨o',(hs.2 b (Nat.ne_of_lt (Nat.lt_of_lt_of_le (Heap.lt_size e) I.ok.above))).trans e1⟩
  .by_cases hj:j=i
   .subst hj;rw[hi] at e1;cases e1;rw[List.getElem?_set_self hiσ] at e2;cases e2;exact⟨u,r,.inl ⟨hk,by simp⟩⟩
   .rw[List.getElem?_set_ne (Ne.symm hj)] at e2;obtain⟨u',r',q⟩:=hl j y v' e1 e2 e3;refine⟨u',r',?_⟩;rcases q with⟨k,e⟩|⟨k,c,e,z⟩
    .refine .inl ⟨k,?_⟩;have:y≠x:=λe=>hj (wc hN e1 (e ▸ hi));simp[this,e]
    .exact .inr ⟨k,c,e,z.sameBut hs (se y c e)⟩
  .obtain⟨w',z⟩:=I.cell y c e;exact⟨w',z.sameBut hs (se y c e)⟩
  .obtain⟨e,n,ne,nf,d⟩:=I.pin p hp;exact⟨(hs.2 p.1 ne).trans e,n,ne,nf,d⟩
 .have hfn:X.fn x=true:=by
   rcases hf with z | z
   .exact z
   .rw[z] at hk;cases hk
  obtain⟨c,hc⟩:=I.ok.has x (.inl hk);obtain⟨w',z⟩:=I.cell x c hc;refine wpAny_storeName_cell I.ok.kind hk hc z (λh' mG hs=>?_);obtain⟨oc,hoc,hocd⟩:=id z;refine h { s with heap:=h' } ⟨I.ok,I.os,I.bare,⟨λb o e n hb hx=>?_,λb o e n hb hx=>?_,I.base.free,λb o e hx=>?_,I.base.dS,I.base.da,I.base.jl⟩,⟨m,hn.sameBut hs (Ne.symm (se x c hc)),λj y v' e1 e2 e3=>?_⟩,λy c' e=>?_,I.free,I.eR,λp hp=>?_,tracked ⟨oc,hoc,I.eR x c hc⟩ hs,by simpa using I.len⟩ ⟨c,hs,.inr hc⟩
  .exact(hs.2 b (Nat.ne_of_lt (Nat.lt_of_lt_of_le (Heap.lt_size e) (I.ok.zl x c hfn hc)))).trans (I.base.keep b o e n hb hx)
  .obtain⟨sl,e1⟩:=I.base.slot b o e n hb hx;exact⟨sl,(hs.2 b (Nat.ne_of_lt (Nat.lt_of_lt_of_le (Heap.lt_size e) (I.ok.zl x c hfn hc)))).trans e1⟩
  .obtain⟨o',e1⟩:=I.base.there b o e hx;exact⟨o',(hs.2 b (Nat.ne_of_lt (Nat.lt_of_lt_of_le (Heap.lt_size e) (I.ok.zl x c hfn hc)))).trans e1⟩
  .by_cases hj:j=i
   .subst hj;rw[hi] at e1;cases e1;rw[List.getElem?_set_self hiσ] at e2;cases e2;exact⟨u,r,.inr ⟨.inl hk,c,hc,mG⟩⟩
   .rw[List.getElem?_set_ne (Ne.symm hj)] at e2;obtain⟨u',r',q⟩:=hl j y v' e1 e2 e3;refine⟨u',r',?_⟩;rcases q with q | ⟨k,c',e,z'⟩
    .exact .inl q
    .refine .inr ⟨k,c',e,z'.sameBut hs ?_⟩;rintro rfl;exact hj (wc hN e1 (I.ok.inj _ _ _ e hc ▸ hi))
  .by_cases hcc:c'=c
   .subst hcc;exact⟨_,mG⟩
   .obtain⟨w2,z2⟩:=I.cell y c' e;exact⟨w2,z2.sameBut hs hcc⟩
  .obtain⟨e,n,ne,nf,d⟩:=I.pin p hp;refine⟨(hs.2 p.1 ?_).trans e,n,ne,nf,d⟩;intro q;rw[q,hoc] at e;have q':oc=p.2:=Option.some.inj e;exact d w' (by rw[<-q'];exact hocd)
theorem fK {M:Model}{A:Around}{E:Value->Sh->Prop}{i:Nat}{x:Str}{v:V}{u:Value}{Q:Unit->Sh->Prop}(I:Inv X pins σ H s)(hN:X.N.Nodup)(hi:X.N[i]?=some x)(hx:Loc X.env.scope x)(r:RelV v u)
 (h:∀s',Inv X pins (σ.set i (some v)) H s'->Q () s') (hf:X.fn x=true\/X.env.scope.names.lookup x=some .local:=by first | exact .inl rfl | exact .inr rfl | assumption):wpAny M A (storeName X.env x u) Q E s:=
 tD I hN hi hx r (λs' I' _=>h s' I') hf
theorem Inv.Np {s':Sh}{ch:List Addr}(I:Inv X pins σ H s)(ho:s'.os=s.os)(u:Un (lr X.stack) ch H H' s.heap s'.heap)(aw:aL X.prog X.w H' s'.heap)(hg:AllBare s'.gens)
 (pJ:∀b∈ch,(b∈X.ex\/X.s₀.heap.objs.size<=b)/\b≠X.env.locals/\(∀x c,X.env.cells.lookup x=some c->c≠b)/\∀p∈X.pn++pins,p.1≠b):Inv X pins σ H' s':=by
 obtain⟨h',g',d',t',o'⟩:=s';have e:o'=s.os:=ho;subst e;exact I.call (g':=g') (t':=t') (d':=d') u aw hg pJ
end
abbrev XK:=Value->Option Addr->Hp->Prop
abbrev St:=List (Option V)
abbrev VK:=V->Hp->Prop
abbrev TE:=St->Hp->VK->Prop
abbrev TT:=St->Hp->(Bool->Hp->Prop)->Prop
abbrev TA:=St->Hp->(List V->Hp->Prop)->Prop
structure Ends where
 nx:St->Hp->Prop
 rt:VK
 bk:St->Hp->Prop:=λ_ _=>False
 ct:St->Hp->Prop:=λ_ _=>False
abbrev TS:=Ends->St->Hp->Prop
def EP (X:Cx)(pins:List (Addr×Obj))(σ:St)(Q:VK)(u:Value)(s':Sh):Prop:=∃v H',Inv X pins σ H' s'/\RelV v u/\Q v H'
def TP (X:Cx)(pins:List (Addr×Obj))(σ:St)(Q:Bool->Hp->Prop)(b:Bool)(s':Sh):Prop:=∃H',Inv X pins σ H' s'/\Q b H'
def AP (X:Cx)(pins:List (Addr×Obj))(σ:St)(Q:List V->Hp->Prop)(us:List Value)(s':Sh):Prop:=∃vs H',Inv X pins σ H' s'/\Vals vs us/\Q vs H'
def SP (X:Cx)(pins:List (Addr×Obj))(D:Ends)(f:Flow)(s':Sh):Prop:=
 match f with
 | .next=>∃σ' H',Inv X pins σ' H' s'/\D.nx σ' H'
 | .brk=>∃σ' H',Inv X pins σ' H' s'/\D.bk σ' H'
 | .cont=>∃σ' H',Inv X pins σ' H' s'/\D.ct σ' H'
 | .ret u=>∃v σ' H',Inv X pins σ' H' s'/\RelV v u/\D.rt v H'
def PE (X:Cx)(e:Expr)(t:TE):Prop:=
 ∀(pins:List (Addr×Obj)) (s:Sh) (σ:St) (H:Hp) (Q:VK),Inv X pins σ H s->t σ H Q->wpAny (model X.prog X.w) X.A (eval e X.env) (EP X pins σ Q) X.xe s
def PT (X:Cx)(e:Expr)(t:TT):Prop:=
 ∀(pins:List (Addr×Obj)) (s:Sh) (σ:St) (H:Hp) (Q:Bool->Hp->Prop),Inv X pins σ H s->t σ H Q->wpAny (model X.prog X.w) X.A (isTrue e X.env (eval e X.env)) (TP X pins σ Q) X.xe s
def PW (X:Cx)(e:Expr)(t:TT):Prop:=
 ∀(whole:Sem Value) (pins:List (Addr×Obj)) (s:Sh) (σ:St) (H:Hp) (Q:Bool->Hp->Prop),Inv X pins σ H s->t σ H Q->wpAny (model X.prog X.w) X.A (isTrue e X.env whole) (TP X pins σ Q) X.xe s
theorem PW.pt {X:Cx}{e:Expr}{t:TT}(h:PW X e t):PT X e t:=h _
def PA (X:Cx)(es:List Expr)(t:TA):Prop:=
 ∀(pos:Pos) (pins:List (Addr×Obj)) (s:Sh) (σ:St) (H:Hp) (Q:List V->Hp->Prop),Inv X pins σ H s->t σ H Q->wpAny (model X.prog X.w) X.A (spliced (backTo pos (starEach es X.env))) (AP X pins σ Q) X.xe s
def PS (X:Cx)(st:Stmt)(t:TS):Prop:=
 ∀(pins:List (Addr×Obj)) (s:Sh) (σ:St) (H:Hp) (D:Ends),Inv X pins σ H s->t D σ H->wpAny (model X.prog X.w) X.A (exec st X.env) (SP X pins D) X.xe s
def iy (X:Cx)(st:List Stmt)(t:TS):Prop:=
 ∀(pins:List (Addr×Obj)) (s:Sh) (σ:St) (H:Hp) (D:Ends),Inv X pins σ H s->t D σ H->wpAny (model X.prog X.w) X.A (execs st X.env) (SP X pins D) X.xe s
theorem aK {α:Type}{t:Sem α}{Q Q':α->Sh->Prop}{M:Model}{A:Around}{E:Value->Sh->Prop}{s:Sh}(h:wpAny M A t Q E s)(hQ:∀a s,Q a s->Q' a s):wpAny M A t Q' E s:=wpAny_mono h hQ λ_ _ x=>x
section
variable {X:Cx}
def OS (i:Nat):TE:=λσ H Q=>∃v,σ[i]?=some (some v)/\Q v H
def tC (v:V):TE:=λ_ H Q=>Q v H
theorem MN {i:Nat}{x:Str}{pos:Pos}(hN:X.N[i]?=some x)(hv:tH X.env.scope x)(hd:(x==("__debug__":Str))=false:=by decide)(sg:(x==("__classdict__":Str))=false:=by decide):PE X (.Name x pos) (OS i):=by
 intro pins s σ H Q I h;obtain⟨v,e,h⟩:=h;obtain⟨m,hn,hl⟩:=I.loc;obtain⟨u,r,l⟩:=hl i x v hN e hv;have fin:EP X pins σ Q u s:=⟨v,H,I,r,h⟩;rcases l with⟨hk,hm⟩|⟨hk,c,hc,vj⟩
 .exact wpAny_Name (wpAny_loadName_local I.ok.kind hk hn hm fin) hd
 .rcases hk with hk | hk
  .exact wpAny_Name (wpAny_loadName_cell I.ok.kind hk hc vj fin) hd
  .exact wpAny_Name (wpAny_loadName_free I.ok.kind hk hc vj fin sg) hd
theorem vL {i j pos}:PE X (.Constant (.int i) j pos) (tC (.int i)):=λ_ _ _ H _ I h=>wpAny_Constant_int ⟨.int i,H,I.tok _,⟨_,rfl⟩,h⟩
theorem NV {b j pos}:PE X (.Constant (.bool b) j pos) (tC (.bl b)):=λ_ _ _ H _ I h=>Constant_bool ⟨.bl b,H,I,rfl,h⟩
theorem Me {j pos}:PE X (.Constant .none j pos) (tC .aj):=λ_ _ _ H _ I h=>Constant_none ⟨.aj,H,I,rfl,h⟩
theorem MK {x j pos}:PE X (.Constant (.str x) j pos) (tC (.str x)):=λ_ _ _ H _ I h=>Calls.Constant_str ⟨.str x,H,I.tok _,⟨_,rfl⟩,h⟩
def Gl (X:Cx)(x:Str):Prop:=X.env.kindOf x=some .globalImplicit
theorem jF {E:Value->Sh->Prop}{pins:List (Addr×Obj)}{s:Sh}{σ:St}{H:Hp}{x:Str}{u:Value}{pos:Pos}{Q:Value->Sh->Prop}(I:Inv X pins σ H s)(hg:Gl X x)(hm:X.mg x=some u)(h:Q u s)
 (hd:(x==("__debug__":Str))=false:=by decide):wpAny (model X.prog X.w) X.A (eval (.Name x pos) X.env) Q E s:=
 Calls.Name_function_global I.ok.kind hg (Calls.loadGlobal_global (by rw[I.ok.glob];exact I.mod.glob.keeps I.bk) hm h) hd
theorem m6 {E:Value->Sh->Prop}{pins:List (Addr×Obj)}{s:Sh}{σ:St}{H:Hp}{x:Str}{u:Value}{pos:Pos}{Q:Value->Sh->Prop}(I:Inv X pins σ H s)(hg:Gl X x)(hm:X.mg x=none)(hv:bootBuiltins x=some u)(h:Q u s)
 (hn:x ≠ "__name__":=by decide) (hd:(x==("__debug__":Str))=false:=by decide):wpAny (model X.prog X.w) X.A (eval (.Name x pos) X.env) Q E s:=by
 obtain⟨mb,h1,h2⟩:=I.mod.blt;exact Calls.Name_function_global I.ok.kind hg (Calls.loadGlobal_builtin (by rw[I.ok.glob];exact I.mod.glob.keeps I.bk) hm (by rw[I.ok.blt];exact h1.keeps I.bk) ((h2 x hn).trans hv) h) hd
theorem Jk {x:Str}{v:V}{u:Value}{pos:Pos}(hg:Gl X x)(hm:X.mg x=some u)(r:RelV v u)(hd:(x==("__debug__":Str))=false:=by decide):PE X (.Name x pos) (tC v):=
 λ_ _ _ H _ I h=>jF I hg hm ⟨v,H,I,r,h⟩ hd
theorem IF {x:Str}{v:V}{u:Value}{pos:Pos}(hg:Gl X x)(hm:X.mg x=none)(hv:bootBuiltins x=some u)(r:RelV v u)(hn:x ≠ "__name__":=by decide)(hd:(x==("__debug__":Str))=false:=by decide):PE X (.Name x pos) (tC v):=
 λ_ _ _ H _ I h=>m6 I hg hm hv ⟨v,H,I,r,h⟩ hn hd
variable {a b:Expr}{ta tb:TE}{pos:Pos}
variable {tA tB':TT}{rest:List Expr}
def O9 (t u:TT):TT:=λσ H Q=>t σ H λc H1=>if c=true then u σ H1 Q else Q false H1
def Pm (t u:TT):TT:=λσ H Q=>t σ H λc H1=>if c=true then Q true H1 else u σ H1 Q
def OF (t:TT):TT:=λσ H Q=>t σ H λc H1=>Q (!c) H1
theorem HJ (ha:PT X a tA):PW X (.BoolOp .And [a] pos) tA:=by
 intro wh pins s σ H Q I h;refine isTrue_and (aK (ha pins s σ H Q I h) λc s1 e=>?_);cases c with
 | true=>exact isTrue_and_nil e
 | false=>exact e
theorem L7 (ha:PT X a tA):PW X (.BoolOp .Or [a] pos) tA:=by
 intro wh pins s σ H Q I h;refine isTrue_or (aK (ha pins s σ H Q I h) λc s1 e=>?_);cases c with
 | false=>exact isTrue_or_nil e
 | true=>exact e
theorem Lh (ha:PT X a tA)(hb:PW X (.BoolOp .And (b::rest) pos) tB'):PW X (.BoolOp .And (a::b::rest) pos) (O9 tA tB'):=by
 intro wh pins s σ H Q I h;refine isTrue_and (aK (ha pins s σ H _ I h) λc s1 ⟨H1,I1,q1⟩=>?_);cases c with
 | true=>exact hb wh pins s1 σ H1 Q I1 q1
 | false=>exact⟨H1,I1,q1⟩
theorem NI (ha:PT X a tA)(hb:PW X (.BoolOp .Or (b::rest) pos) tB'):PW X (.BoolOp .Or (a::b::rest) pos) (Pm tA tB'):=by
 intro wh pins s σ H Q I h;refine isTrue_or (aK (ha pins s σ H _ I h) λc s1 ⟨H1,I1,q1⟩=>?_);cases c with
 | true=>exact⟨H1,I1,q1⟩
 | false=>exact hb wh pins s1 σ H1 Q I1 q1
theorem Li (ha:PT X a tA):PT X (.UnaryOp .Not a pos) (OF tA):=by intro pins s σ H Q I h;exact isTrue_not (ha pins s σ H (λc H1=>Q (!c) H1) I h)
def N0 (ta tb:TE):TE:=λσ H Q=>ta σ H λx H1=>∃c,x = .bl c/\if c=true then tb σ H1 Q else Q (.bl false) H1
def OD (ta tb:TE):TE:=λσ H Q=>ta σ H λx H1=>∃c,x = .bl c/\if c=true then Q (.bl true) H1 else tb σ H1 Q
def Na (ta:TE):TE:=λσ H Q=>ta σ H λx H1=>∃c,x = .bl c/\Q (.bl (!c)) H1
theorem L8 {op}{t:TE}(h:PE X a t):PE X (.BoolOp op [a] pos) t:=λpins s σ H Q I hw=>BoolOp_one (h pins s σ H Q I hw)
theorem KQ (ha:PE X a ta)(hb:PE X (.BoolOp .And (b::rest) pos) tb):PE X (.BoolOp .And (a::b::rest) pos) (N0 ta tb):=by
 intro pins s σ H Q I h;refine BoolOp_and (aK (ha pins s σ H _ I h) λv s1 ⟨x,H1,I1,r1,q1⟩=>?_);obtain⟨c,rfl,q1⟩:=q1;cases r1;refine wpAny_truthy_bool ?_;cases c with
 | true=>exact hb pins s1 σ H1 Q I1 q1
 | false=>exact⟨.bl false,H1,I1,rfl,q1⟩
theorem N9 (ha:PE X a ta)(hb:PE X (.BoolOp .Or (b::rest) pos) tb):PE X (.BoolOp .Or (a::b::rest) pos) (OD ta tb):=by
 intro pins s σ H Q I h;refine BoolOp_or (aK (ha pins s σ H _ I h) λv s1 ⟨x,H1,I1,r1,q1⟩=>?_);obtain⟨c,rfl,q1⟩:=q1;cases r1;refine wpAny_truthy_bool ?_;cases c with
 | false=>exact hb pins s1 σ H1 Q I1 q1
 | true=>exact⟨.bl true,H1,I1,rfl,q1⟩
theorem JP (ha:PE X a ta):PE X (.UnaryOp .Not a pos) (Na ta):=by intro pins s σ H Q I h;refine UnaryOp_ (aK (ha pins s σ H _ I h) λv s1 ⟨x,H1,I1,r1,q1⟩=>?_);obtain⟨c,rfl,q1⟩:=q1;cases r1;exact not_of (wpAny_truthy_bool ⟨.bl (!c),H1,I1,rfl,q1⟩)
def Pj (t:TT)(ta tb:TE):TE:=λσ H Q=>t σ H λc H1=>if c=true then ta σ H1 Q else tb σ H1 Q
theorem Fb {c:Expr}(hc:PT X c tA)(ha:PE X a ta)(hb:PE X b tb):PE X (.IfExp c a b pos) (Pj tA ta tb):=by
 intro pins s σ H Q I h;refine wpAny_IfExp (aK (hc pins s σ H _ I h) λd s1 ⟨H1,I1,q1⟩=>?_);cases d with
 | true=>exact ha pins s1 σ H1 Q I1 q1
 | false=>exact hb pins s1 σ H1 Q I1 q1
end
def cB (K:Fg)(H:Hp)(a:Addr)(xs:List V):Prop:=
 Rd H a (.lst xs) \/
  ∃(o:Obj) (ai:Array Value) (n:Nat),K.lookup a=some o/\o.cls = .type "list"/\o.dict=none/\o.data = .seq ai n/\ai.size<=sizeLine/\Vals xs ai.toList
def cz (K:Fg)(H:Hp)(a:Addr)(xs:List V):Prop:=
 Rd H a (.tup xs) \/
  ∃(o:Obj) (ai:Array Value) (n:Nat),K.lookup a=some o/\o.cls = .type "tuple"/\o.data = .seq ai n/\ai.size<=sizeLine/\Vals xs ai.toList
def O8:Value->Option V
 | .none=>some .aj
 | .bool b=>some (.bl b)
 | .int i _=>some (.int i)
 | .str x _=>some (.str x)
 | .bytes b _=>some (.pH b)
 | .float b _=>some (.sf b)
 | .ref a=>some (.ref a)
 | .type n=>some (.ty n)
 | _=>none
theorem RelV.abs {x:V}{u:Value}(r:RelV x u):O8 u=some x:=by
 cases x with
 | aj=>cases r;rfl
 | bl _=>cases r;rfl
 | int _=>obtain⟨t,rfl⟩:=r;rfl
 | str _=>obtain⟨t,rfl⟩:=r;rfl
 | pH _=>obtain⟨t,rfl⟩:=r;rfl
 | sf _=>obtain⟨t,rfl⟩:=r;rfl
 | ref _=>cases r;rfl
 | ty _=>cases r;rfl
theorem RelV.inj {x y:V}{u:Value}(r:RelV x u)(q:RelV y u):x=y:=Option.some.inj (r.abs.symm.trans q.abs)
theorem Vals.inj:∀{xs ys:List V} {us:List Value},Vals xs us->Vals ys us->xs=ys
 | _,_,_,.nil,.nil=>rfl
 | _,_,_,.cons r t,.cons r' t'=>by rw[r.inj r',Vals.inj t t']
section
variable {X:Cx}{pins:List (Addr×Obj)}{σ:St}{H:Hp}{s:Sh}{a:Addr}{xs ys:List V}
theorem cB.of {K:Fg}(h:H a=some (.lst xs)):cB K H a xs:=.inl (.inl h)
theorem cz.of {K:Fg}(h:H a=some (.tup xs)):cz K H a xs:=.inl (.inl h)
theorem Inv.list (I:Inv X pins σ H s)(h:cB X.K H a xs):∃ai:List Value,Vals xs ai/\PlainL s.heap a ai.toArray/\xs.length<=sizeLine:=by
 rcases h with h | ⟨o,ai,n,hk,hc,hd,hs,hz,r⟩
 .obtain⟨z,ai,n,r,e⟩:=h.ok I.aw;exact⟨ai,r,⟨_,n,e,rfl,rfl,rfl⟩,z⟩
 .refine⟨ai.toList,r,⟨o,n,I.eh a o hk,hc,hd,by simpa using hs⟩,?_⟩;have e:=r.length;simp only[Array.length_toList] at e;omega
theorem Inv.tuple (I:Inv X pins σ H s)(h:cz X.K H a xs):∃ai:List Value,Vals xs ai/\IsTup s.heap a ai.toArray/\xs.length<=sizeLine:=by
 rcases h with h | ⟨o,ai,n,hk,hc,hs,hz,r⟩
 .obtain⟨z,ai,r,p⟩:=h.ok I.aw;exact⟨ai,r,p,z⟩
 .refine⟨ai.toList,r,⟨o,I.eh a o hk,hc,n,by simpa using hs⟩,?_⟩;have e:=r.length;simp only[Array.length_toList] at e;omega
theorem Inv.pV (I:Inv X pins σ H s)(h:cB X.K H a xs)(h':cB X.K H a ys):xs=ys:=by
 obtain⟨ai,r,⟨o,n,e,_,_,d⟩,_⟩:=I.list h;obtain⟨its',r',⟨o',n',e',_,_,d'⟩,_⟩:=I.list h';rw[e] at e';cases e';rw[d] at d';injection d' with d1 _;have:ai=its':=by simpa using congrArg Array.toList d1
 subst this;exact r.inj r'
theorem Inv.uh (I:Inv X pins σ H s)(h:cz X.K H a xs)(h':cz X.K H a ys):xs=ys:=by
 obtain⟨ai,r,⟨o,e,_,n,d⟩,_⟩:=I.tuple h;obtain⟨its',r',⟨o',e',_,n',d'⟩,_⟩:=I.tuple h';rw[e] at e';cases e';rw[d] at d';injection d' with d1 _;have:ai=its':=by simpa using congrArg Array.toList d1
 subst this;exact r.inj r'
end
abbrev Cx.kM (X:Cx)(E:Value->Sh->Prop):Cx:={ X with xe:=E }
abbrev Cx.cV (X:Cx):Cx:=X.kM λ_ _=>False
theorem Cx.Ok.kM {X:Cx}(ok:X.Ok)(E:Value->Sh->Prop):(X.kM E).Ok:=
 ⟨ok.mod,ok.kind,ok.glob,ok.blt,ok.above,ok.inj,ok.has,ok.zl,ok.hd,ok.frames,ok.Dt,ok.exf,ok.bs,ok.pI,ok.tf,ok.xx,ok.eB,ok.uD⟩
theorem Cx.Ok.i9 {X:Cx}{E:Value->Sh->Prop}(ok:(X.kM E).Ok):X.Ok:=
 ⟨ok.mod,ok.kind,ok.glob,ok.blt,ok.above,ok.inj,ok.has,ok.zl,ok.hd,ok.frames,ok.Dt,ok.exf,ok.bs,ok.pI,ok.tf,ok.xx,ok.eB,ok.uD⟩
section
variable {X:Cx}{pins:List (Addr×Obj)}{σ:St}{H:Hp}{s:Sh}{E:Value->Sh->Prop}
theorem Inv.kM (I:Inv X pins σ H s)(E:Value->Sh->Prop):Inv (X.kM E) pins σ H s:=⟨I.ok.kM E,I.os,I.bare,I.base,I.loc,I.cell,I.free,I.eR,I.pin,I.aw,I.len⟩
theorem Inv.i9 (I:Inv (X.kM E) pins σ H s):Inv X pins σ H s:=⟨I.ok.i9,I.os,I.bare,I.base,I.loc,I.cell,I.free,I.eR,I.pin,I.aw,I.len⟩
theorem SP.i9 {D:Ends}{f:Flow}{s':Sh}(h:SP (X.kM E) pins D f s'):SP X pins D f s':=by
 cases f with
 | next=>obtain⟨σ',H',I,q⟩:=h;exact⟨σ',H',I.i9,q⟩
 | brk=>obtain⟨σ',H',I,q⟩:=h;exact⟨σ',H',I.i9,q⟩
 | cont=>obtain⟨σ',H',I,q⟩:=h;exact⟨σ',H',I.i9,q⟩
 | ret u=>obtain⟨v,σ',H',I,r,q⟩:=h;exact⟨v,σ',H',I.i9,r,q⟩
end
section
variable {X:Cx}{st:Stmt}{rest:List Stmt}{t u:TS}{e:Expr}{te:TE}{pos:Pos}
def GN:TS:=λD σ H=>D.nx σ H
def O0 (t u:TS):TS:=λD σ H=>t { D with nx:=u D } σ H
theorem Jo:iy X [] GN:=λ_ _ σ H _ I h=>wpAny_execs_nil ⟨σ,H,I,h⟩
theorem EX (h1:PS X st t)(h2:iy X rest u):iy X (st::rest) (O0 t u):=by
 intro pins s σ H D I h;refine wpAny_execs_cons (aK (h1 pins s σ H { D with nx:=u D } I h) λf s1 q=>?_);cases f with
 | next=>obtain⟨σ',H',I',q⟩:=q;exact h2 pins s1 σ' H' D I' q
 | ret v=>exact q
 | brk=>exact q
 | cont=>exact q
def Lc:TS:=λD σ H=>D.bk σ H
def Nj:TS:=λD σ H=>D.ct σ H
theorem IE:PS X (.Pass pos) GN:=λ_ _ σ H _ I h=>wpAny_Pass ⟨σ,H,I,h⟩
theorem FY:PS X (.Break pos) Lc:=λ_ _ σ H _ I h=>wpAny_Break ⟨σ,H,I,h⟩
theorem xR:PS X (.Continue pos) Nj:=λ_ _ σ H _ I h=>wpAny_Continue ⟨σ,H,I,h⟩
theorem Inv.quiet {pins:List (Addr×Obj)}{σ:St}{H:Hp}{s:Sh}(I:Inv X pins σ H s):interactive X.env=false:=by simp[interactive,I.ok.kind]
def NU (te:TE):TS:=λD σ H=>te σ H λ_ H1=>D.nx σ H1
theorem JJ (he:PE X e te)(hs:swapsWith e none pos.line X.env=pure false:=by rfl):PS X (.Expr e pos) (NU te):=by intro pins s σ H D I h;exact wpAny_Expr_any (aK (he pins s σ H _ I h) λv s1 ⟨x,H1,I1,r1,q1⟩=>⟨σ,H1,I1,q1⟩) I.quiet hs
def OY (te:TE):TS:=λD σ H=>te σ H D.rt
theorem Mm (he:PE X e te):PS X (.Return (some e) pos) (OY te):=by intro pins s σ H D I h;exact wpAny_Return_some (aK (he pins s σ H _ I h) λv s1 ⟨x,H1,I1,r1,q1⟩=>⟨x,σ,H1,I1,r1,q1⟩)
def Nu:TS:=λD _ H=>D.rt .aj H
theorem Jr:PS X (.Return none pos) Nu:=λ_ _ σ H _ I h=>wpAny_Return_none ⟨.aj,σ,H,I,rfl,h⟩
def OZ (c:TT)(t u:TS):TS:=λD σ H=>c σ H λb H1=>if b=true then t D σ H1 else u D σ H1
theorem NN {c:Expr}{a b:List Stmt}{tc:TT}(hc:PT X c tc)(ha:iy X a t)(hb:iy X b u):PS X (.If c a b pos) (OZ tc t u):=by
 intro pins s σ H D I h;refine wpAny_If (aK (hc pins s σ H _ I h) λd s1 ⟨H1,I1,q1⟩=>?_);cases d with
 | true=>exact ha pins s1 σ H1 D I1 q1
 | false=>exact hb pins s1 σ H1 D I1 q1
end
abbrev TG:=V->St->Hp->(St->Hp->Prop)->Prop
abbrev ux:=List V->St->Hp->(St->Hp->Prop)->Prop
def PG (X:Cx)(target:Expr)(t:TG):Prop:=
 ∀(pins:List (Addr×Obj)) (s:Sh) (σ:St) (H:Hp) (v:V) (u:Value) (Q:St->Hp->Prop),Inv X pins σ H s->RelV v u->t v σ H Q ->
  wpAny (model X.prog X.w) X.A (assign target X.env u) (λ_ s'=>∃σ' H',Inv X pins σ' H' s'/\Q σ' H') X.xe s
def yN (X:Cx)(ts:List Expr)(t:ux):Prop:=
 ∀(pins:List (Addr×Obj)) (s:Sh) (σ:St) (H:Hp) (vs:List V) (us:List Value) (Q:St->Hp->Prop),Inv X pins σ H s->Vals vs us->t vs σ H Q ->
  wpAny (model X.prog X.w) X.A (assignInOrder ((assignEach ts X.env).map (·.2)) us) (λ_ s'=>∃σ' H',Inv X pins σ' H' s'/\Q σ' H') X.xe s
abbrev sH:=V->V->V->Hp->(Hp->Prop)->Prop
def ng (X:Cx)(t:sH):Prop:=
 ∀(pins:List (Addr×Obj)) (s:Sh) (σ:St) (H:Hp) (o i v:V) (ov iv u:Value) (Q:Hp->Prop),Inv X pins σ H s->RelV o ov->RelV i iv->RelV v u->t o i v H Q ->
  wpAny (model X.prog X.w) X.A (setItem ov iv u) (λ_ s'=>∃H',Inv X pins σ H' s'/\Q H') X.xe s
abbrev GY:=V->V->Hp->VK->Prop
def Ow (X:Cx)(op:Operator)(t:GY):Prop:=
 ∀(pins:List (Addr×Obj)) (s:Sh) (σ:St) (H:Hp) (x y:V) (v u:Value) (Q:VK),Inv X pins σ H s->RelV x v->RelV y u->t x y H Q ->
  wpAny (model X.prog X.w) X.A (inplaceOp op v u) (EP X pins σ Q) X.xe s
section
variable {X:Cx}{pos:Pos}
def ow (i:Nat):TG:=λv σ H Q=>Q (σ.set i (some v)) H
theorem oB {i:Nat}{x:Str}(hN:X.N.Nodup)(hi:X.N[i]?=some x)(hx:Loc X.env.scope x)(hf:X.fn x=true\/X.env.scope.names.lookup x=some .local:=by first | exact .inl rfl | exact .inr rfl | assumption):PG X (.Name x pos) (ow i):=by intro pins s σ H v u Q I r h;exact wpAny_assign_Name (fK I hN hi hx r (λs' I'=>⟨_,H,I',h⟩) hf)
def MP:ux:=λvs σ H Q=>vs=[]/\Q σ H
def GH (t:TG)(u:ux):ux:=λvs σ H Q=>∃v r,vs=v::r/\t v σ H λσ' H'=>u r σ' H' Q
theorem yD:yN X [] MP:=by intro pins s σ H vs us Q I r h;obtain⟨e,h⟩:=h;subst e;cases r;exact assignInOrder_nil ⟨σ,H,I,h⟩
theorem wy {e:Expr}{es:List Expr}{t:TG}{u:ux}(h1:PG X e t)(h2:yN X es u)
 (hs:(assignEach (e::es) X.env).map (·.2)=assign e X.env::(assignEach es X.env).map (·.2):=by rfl):yN X (e::es) (GH t u):=by
 intro pins s σ H vs us Q I r h;obtain⟨v,vr,e1,h⟩:=h;subst e1;cases r with
 | cons r rr=>rw[hs];refine assignInOrder_cons (aK (h1 pins s σ H _ _ _ I r h) λ_ s1 ⟨σ1,H1,I1,q1⟩=>?_);exact h2 pins s1 σ1 H1 _ _ Q I1 rr q1
def E8 (K:Fg)(n:Nat)(t:ux):TG:=λv σ H Q=>∃a xs,v = .ref a/\cz K H a xs/\xs.length=n/\t xs σ H Q
theorem rL {es:List Expr}{k:Nat}{t:ux}{n:Nat}(hc:X.calm=true)(h:yN X es t)
 (hn:(assignEach es X.env).length=n:=by rfl) (hst:(assignEach es X.env).findIdx? (·.1)=none:=by rfl):PG X (.Tuple es k pos) (E8 X.K n t):=by
 intro pins s σ H v u Q I r hw;obtain⟨a,xs,e1,hq,hl,hw⟩:=hw;subst e1;cases r;obtain⟨ai,rv,ht,hz⟩:=I.tuple hq;refine assign_Tuple_tuple (I.ok.hd hc) ht (by simp[hn,<-hl,rv.length]) hst λh' hx=>?_;have I1:Inv X pins σ H { s with heap:=h' }:=I.kept (t':=s.toks) λb o e=>hx b o (Nat.ne_of_lt (Heap.lt_size e)) e;exact h pins _ σ H xs _ Q I1 (by simpa using rv) hw
def O2 (to ti:TE)(t:sH):TG:=λv σ H Q=>to σ H λo H1=>ti σ H1 λi H2=>t o i v H2 λH3=>Q σ H3
theorem MI {o i:Expr}{to ti:TE}{t:sH}(ho:PE X o to)(hi:PE X i ti)(hs:ng X t)
 (ha:∀v,assign (.Subscript o i pos) X.env v=(do
   let ov <-holding [v] (eval o X.env)
   let iv <-holding [v,ov] (eval i X.env)
   standAt pos
   holding [v,ov,iv] (setItem ov iv v)
   release [v,ov,iv] []):=by intro _;rfl):PG X (.Subscript o i pos) (O2 to ti t):=by
 intro pins s σ H v u Q I r h;rw[ha];refine wpAny_bind (wpAny_holding (aK (ho pins s σ H _ I h) λov s1 ⟨x,H1,I1,r1,q1⟩=>?_));refine wpAny_bind (wpAny_holding (aK (hi pins s1 σ H1 _ I1 q1) λiv s2 ⟨y,H2,I2,r2,q2⟩=>?_));refine wpAny_bind (wpAny_standAt (wpAny_bind (wpAny_holding (aK (hs pins s2 σ H2 x y v ov iv u _ I2 r1 r2 r q2) λ_ s3 ⟨H3,I3,q3⟩=>?_))));exact wpAny_release ⟨σ,H3,I3,q3⟩
def Ks (te:TE)(g:TG):TS:=λD σ H=>te σ H λx H1=>g x σ H1 D.nx
theorem wG {tg e:Expr}{te:TE}{g:TG}(he:PE X e te)(hg:PG X tg g)(hs:swapsWithSole [tg] e pos.line X.env=pure false:=by rfl)(hw:swappedStores [tg] e X.env=pure none:=by rfl)
 (h1:(assignEach [tg] X.env).map (·.2)=[assign tg X.env]:=by rfl):PS X (.Assign [tg] e pos) (Ks te g):=by
 intro pins s σ H D I h;refine wpAny_Assign_stores (aK (he pins s σ H _ I h) λv s1 ⟨x,H1,I1,r1,q1⟩=>?_) hs hw;rw[h1];exact aK (hg pins s1 σ H1 x v _ I1 r1 q1) λ_ s2 q=>q
theorem KL {i:Nat}{x:Str}{e:Expr}{te:TE}{pos':Pos}(hN:X.N.Nodup)(hi:X.N[i]?=some x)(hx:Loc X.env.scope x)(he:PE X e te)(hs:swapsWith e (some (.Name x pos')) pos.line X.env=pure false:=by rfl)(hf:X.fn x=true\/X.env.scope.names.lookup x=some .local:=by first | exact .inl rfl | exact .inr rfl | assumption):
 PS X (.Assign [.Name x pos'] e pos) (Ks te (ow i)):=by
 intro pins s σ H D I h;refine wpAny_Assign_Name (aK (he pins s σ H _ I h) λv s1 ⟨y,H1,I1,r1,q1⟩=>?_) hs;exact fK I1 hN hi hx r1 (λs2 I2=>⟨_,H1,I2,q1⟩) hf
def Pb (i j:Nat)(ta:TA):TS:=λD σ H=>ta σ H λvs H1=>∃v w,vs=[v,w]/\D.nx ((σ.set i (some v)).set j (some w)) H1
theorem KI {i j:Nat}{x y:Str}{a b:Expr}{ta:TA}{px py pt:Pos}{kt k2 xy}(hc:X.calm=true)(hN:X.N.Nodup)(hi:X.N[i]?=some x)(hj:X.N[j]?=some y)(Dx:i≠j)
 (hx:X.env.scope.names.lookup x=some .local) (hy:X.env.scope.names.lookup y=some .local) (ha:PA X [a,b] ta)
 (hw:swappedStores [.Tuple [.Name x px,.Name y py] kt pt] (.Tuple [a,b] k2 xy) X.env=pure (some [x,y]))
 (hs:swapsWithSole [.Tuple [.Name x px,.Name y py] kt pt] (.Tuple [a,b] k2 xy) pos.line X.env=pure false:=by rfl):
 PS X (.Assign [.Tuple [.Name x px,.Name y py] kt pt] (.Tuple [a,b] k2 xy) pos) (Pb i j ta):=by
 intro pins s σ H D I h;rw[exec_Assign_arm];refine wpAny_bind (wpAny_standAt ?_);rw[hs];refine wpAny_bind (wpAny_pure ?_);rw[if_neg (by decide)];refine wpAny_bind (Tuple_ (aK (ha _ pins s σ H _ I h) λus s1 ⟨vs,H1,I1,r1,q1⟩=>?_));obtain⟨v,w,e1,q1⟩:=q1;subst e1;obtain⟨u1,u2,rfl,rv,rw'⟩:∃u1 u2,us=[u1,u2]/\RelV v u1/\RelV w u2:=by
  cases r1 with
  | cons p q=>
   cases q with
   | cons p' q'=>cases q';exact⟨_,_,rfl,p,p'⟩
 refine wpAny_newObj_type ?_ (by show 2<=sizeLine;decide);have I2:Inv X pins σ H1 { s1 with heap:=s1.heap.push { cls:=.type "tuple",data:=.seq [u1,u2].toArray } }:=I1.kept (t':=s1.toks) λb o e=>Heap.get?_push_of_some _ e;rw[hw];refine wpAny_bind (wpAny_pure ?_);show wpAny (model X.prog X.w) X.A (do rule "assign.swapped-stores";let items <-unpackItems (.ref s1.heap.objs.size) 2 none;assignInOrder [λv=>bindName X.env y v,λv=>bindName X.env x v] items.reverse;pure Flow.next) _ _ _;refine wpAny_bind (wpAny_rule (wpAny_bind (unpackItems_tuple (items:=#[u1,u2]) (I.ok.hd hc) (IsTup.new s1.heap _) λh' xA=>?_)));have I3:=I2.kept (h':=h') (t':=s1.toks) λb o e=>xA b o (Nat.ne_of_lt (Heap.lt_size e)) e;show wpAny _ _ (assignInOrder [λv=>bindName X.env y v,λv=>bindName X.env x v] [u2,u1] >>= λ_=>pure Flow.next) _ _ _;refine wpAny_bind (assignInOrder_cons (wpAny_bindName (fK I3 hN hj (.inl hy) rw' (λs2 I4=>?_) (.inr hy))));refine assignInOrder_cons (wpAny_bindName (fK I4 hN hi (.inl hx) rv (λs3 I5=>assignInOrder_nil (wpAny_pure ?_)) (.inr hx)));rw[List.set_comm _ _ (Ne.symm Dx)] at I5;exact⟨_,H1,I5,q1⟩
def OU (i:Nat)(te:TE)(ti:GY):TS:=λD σ H=>∃x,σ[i]?=some (some x)/\te σ H λy H1=>ti x y H1 λz H2=>D.nx (σ.set i (some z)) H2
theorem J0 {i:Nat}{x:Str}{e:Expr}{te:TE}{op:Operator}{ti:GY}{pos':Pos}(hN:X.N.Nodup)(hi:X.N[i]?=some x)(hx:Loc X.env.scope x)(he:PE X e te)(ho:Ow X op ti)(hf:X.fn x=true\/X.env.scope.names.lookup x=some .local:=by first | exact .inl rfl | exact .inr rfl | assumption):
 PS X (.AugAssign (.Name x pos') op e pos) (OU i te ti):=by
 intro pins s σ H D I h;obtain⟨v,e1,h⟩:=h;obtain⟨m,hn,hl⟩:=I.loc;have JS:tH X.env.scope x:=by rcases hx with k | k;exact .inl k;exact .inr (.inl k)
 obtain⟨u,r,l⟩:=hl i x v hi e1 JS;refine wpAny_AugAssign_Name ?_;have go:wpAny (model X.prog X.w) X.A (eval e X.env) (λw s₂=>wpAny (model X.prog X.w) X.A (inplaceOp op u w) (λr s₃=>wpAny (model X.prog X.w) X.A (storeName X.env x r) (λ_=>SP X pins D .next) X.xe s₃) X.xe s₂) X.xe s:=by refine aK (he pins s σ H _ I h) λw s1 ⟨y,H1,I1,r1,q1⟩=>?_;refine aK (ho pins s1 σ H1 v y u w _ I1 r r1 q1) λz s2 ⟨zv,H2,I2,r2,q2⟩=>?_;exact fK I2 hN hi hx r2 (λs3 I3=>⟨_,H2,I3,q2⟩) hf
 rcases l with⟨hk,hm⟩|⟨hk,c,hc,vj⟩
 .exact wpAny_loadName_local I.ok.kind hk hn hm go
 .rcases hk with hk | hk
  .exact wpAny_loadName_cell I.ok.kind hk hc vj go
  .rcases hx with k | k
   .have:X.env.scope.names.lookup x=some .free:=hk;rw[k] at this;cases this
   .have:X.env.scope.names.lookup x=some .free:=hk;rw[k] at this;cases this
end
section
variable {X:Cx}{pos:Pos}
end
structure It where
 go:Nat->Hp->Prop
 xB:Nat->Hp->V->Hp->Prop
 stop:Nat->Hp->Prop
def eL (X:Cx)(pins:List (Addr×Obj))(H:Hp)(b:Addr):Prop:=
 H b=none/\b≠X.env.locals/\b∉X.fs/\(b∈X.ex\/X.s₀.heap.objs.size<=b)/\(∀x c,X.env.cells.lookup x=some c->c≠b)/\∀p∈X.pn++pins,p.1≠b
theorem Inv.me {X:Cx}{pins:List (Addr×Obj)}{σ:St}{H H':Hp}{s:Sh}{b:Addr}(I:Inv X pins σ H s)(hb:s.heap.objs.size<=b)(hn:H' b=none):eL X pins H' b:=by
 refine⟨hn,Nat.ne_of_gt (Nat.lt_of_lt_of_le I.lt hb),I.O1 hb,.inr (Nat.le_trans I.sz hb),λx c e z=>?_,λp hp z=>?_⟩
 .obtain⟨v,q⟩:=I.cell x c e;exact absurd (Nat.lt_of_lt_of_le q.lt (by rw[z];exact hb)) (Nat.lt_irrefl _)
 .exact absurd (Nat.lt_of_lt_of_le (Heap.lt_size (I.pin p hp).1) (by rw[z];exact hb)) (Nat.lt_irrefl _)
structure Turn (P:Program)(w:World)(K:Fg)(tg:Expr)(J:It)(fp:List Addr)(it:Addr)(tn:Nat->Heap->Prop):Prop where
 mem:it∈fp
 obj:∀i h,tn i h->∀b∈fp,∃o,h.get? b=some o/\∀v,o.data ≠ .cell v
 keep:∀i h h',tn i h->(∀b∈fp,∀o,h.get? b=some o->h'.get? b=some o)->tn i h'
 item:∀(X:Cx),X.prog=P->X.w=w->X.K=K->X.calm=true->∀(i:Nat) (pins:List (Addr×Obj)) (s:Sh) (σ:St) (H:Hp) (E:Value->Sh->Prop),Inv X pins σ H s->(∀b∈fp,eL X pins H b)->tn i s.heap->J.go i H ->
  wpAny (model P w) X.A (pyNext (.ref it)) (λr s1=>∃u,r=some u /\
   wpAny (model P w) X.A (letOwnedTupleGo tg (.ref it) u) (λ_ s2=>∃x H',Inv X pins σ H' s2/\RelV x u/\J.xB i H x H'/\tn (i+1) s2.heap/\∀b∈fp,H' b=none) E s1) E s
 done:∀(X:Cx),X.prog=P->X.w=w->X.K=K->X.calm=true->∀(i:Nat) (pins:List (Addr×Obj)) (s:Sh) (σ:St) (H:Hp) (E:Value->Sh->Prop),Inv X pins σ H s->(∀b∈fp,eL X pins H b)->tn i s.heap->J.stop i H ->
  wpAny (model P w) X.A (pyNext (.ref it)) (λr s1=>r=none/\Inv X pins σ H s1) E s
 self:∀(A:Around) (i:Nat) (s:Sh) (Q:Value->Sh->Prop) (E:Value->Sh->Prop),tn i s.heap->Q (.ref it) s->wpAny (model P w) A (pyIter (.ref it)) Q E s
abbrev TI:=St->Hp->(It->Hp->Prop)->Prop
def Ov (X:Cx)(pins:List (Addr×Obj))(σ:St)(tg:Expr)(R:It->Hp->Prop)(itv:Value)(s2:Sh):Prop:=
 ∃(it:Addr) (fp:List Addr) (tn:Nat->Heap->Prop) (J:It) (H':Hp),itv = .ref it/\Inv X pins σ H' s2/\Turn X.prog X.w X.K tg J fp it tn/\tn 0 s2.heap/\(∀b∈fp,eL X pins H' b)/\R J H'
def PI (X:Cx)(tg iter:Expr)(wi:TI):Prop:=
 ∀(pins:List (Addr×Obj)) (s:Sh) (σ:St) (H:Hp) (R:It->Hp->Prop),Inv X pins σ H s->wi σ H R ->
  wpAny (model X.prog X.w) X.A (eval iter X.env) (λv s1=>wpAny (model X.prog X.w) X.A (pyIter v) (Ov X pins σ tg R) X.xe s1) X.xe s
theorem rp {M:Model}{A:Around}{E:Value->Sh->Prop}{s:Sh}{tg:Expr}{it:Addr}{u:Value}{o:Obj}{n:String}{vs:Array Value}{Q:Unit->Sh->Prop}(ho:s.heap.get? it=some o)(hc:o.cls = .type n)(hd:o.data = .fields vs)
 (hn:["enumerate","zip","dict_itemiterator","dict_reverseitemiterator","odict_iterator","itertools.zip_longest","itertools.pairwise"].contains n=false) (hQ:Q () s):wpAny M A (letOwnedTupleGo tg (.ref it) u) Q E s:=by
 unfold letOwnedTupleGo;cases tg<;>first
  | exact wpAny_pure hQ
  | (cases u<;>first
      | exact wpAny_pure hQ
      | (refine wpAny_bind (wpAny_load ho ?_)
         rw[hc,hd];show wpAny M A (if (["enumerate","zip","dict_itemiterator","dict_reverseitemiterator","odict_iterator","itertools.zip_longest","itertools.pairwise"].contains n&&vs[0]?==some (rawInt _))=true then _ else _) Q E s;rw[if_neg (by intro h;rw[hn,Bool.false_and] at h;cases h)];exact wpAny_pure hQ))
def yi (K:Fg)(a:Addr):It:=
 ⟨λi H=>∃xs x,cB K H a xs/\xs[i]?=some x,λi H x H'=>H'=H/\∀xs,cB K H a xs->xs[i]?=some x,λi H=>∃xs,cB K H a xs/\xs.length<=i⟩
def Lf (K:Fg)(a:Addr):It:=
 ⟨λi H=>∃xs x,cz K H a xs/\xs[i]?=some x,λi H x H'=>H'=H/\∀xs,cz K H a xs->xs[i]?=some x,λi H=>∃xs,cz K H a xs/\xs.length<=i⟩
def Gz (lo:Int)(n:Nat):It:=⟨λi _=>i<n,λi H x H'=>H'=H/\x = .int (lo+i),λi _=>n<=i⟩
theorem Dr {P:Program}{w:World}{K:Fg}{tg:Expr}(a it:Addr):Turn P w K tg (yi K a) [it] it (λi h=>h.IsListIter it a i) where
 mem:=by simp
 obj:=λi h st b hb=>by
  have e:b=it:=by simpa using hb
  subst e;obtain⟨o,e,c,d⟩:=st;exact⟨o,e,λv z=>by rw[d] at z;cases z⟩
 keep:=λi h h' st k=>st.at λo e=>k it (by simp) o e
 item:=by intro X hP hw hK hc i pins s σ H E I hf st hg;subst hP hw hK;obtain⟨xs,x,hq,hx⟩:=hg;obtain⟨ai,rv,p,hz⟩:=I.list hq;obtain⟨u,hu,ru⟩:=rv.get hx;obtain⟨f0,f1,f2,f3,f4,f5⟩:=hf it (by simp);refine wpAny_pyNext_list_item st p.isList (x:=u) (by simpa using hu) λh' jq sb=>?_;have I1:Inv X pins σ H { s with heap:=h' }:=I.turned (t':=s.toks) (λb o hb e=>(sb.2 b hb).trans e) f0 f1 f3 f4 f5;obtain⟨o,e,c,d⟩:=id jq;exact⟨u,rfl,rp (s:={ s with heap:=h' }) e c d (by decide) ⟨x,H,I1,ru,⟨rfl,λys hy=>by rw[I.pV hy hq];exact hx⟩,jq,λb hb=>(hf b hb).1⟩⟩
 done:=by intro X hP hw hK hc i pins s σ H E I hf st hg;subst hP hw hK;obtain⟨xs,hq,hx⟩:=hg;obtain⟨ai,rv,p,hz⟩:=I.list hq;obtain⟨f0,f1,f2,f3,f4,f5⟩:=hf it (by simp);have hl:=rv.length;exact wpAny_pyNext_list_end (I.ok.hd hc) st p.isList (by simp;omega) λh' eb=>⟨rfl,I.turned (t':=s.toks) (λb o hb e=>eb b o hb e) f0 f1 f3 f4 f5⟩
 self:=λ_ _ _ _ _ st h=>wpAny_pyIter_listiter st h
theorem A5 {P:Program}{w:World}{K:Fg}{tg:Expr}(a it:Addr):Turn P w K tg (Lf K a) [it] it (λi h=>h.IsTupleIter it a i) where
 mem:=by simp
 obj:=λi h st b hb=>by
  have e:b=it:=by simpa using hb
  subst e;obtain⟨o,e,c,d⟩:=st;exact⟨o,e,λv z=>by rw[d] at z;cases z⟩
 keep:=λi h h' st k=>st.at λo e=>k it (by simp) o e
 item:=by intro X hP hw hK hc i pins s σ H E I hf st hg;subst hP hw hK;obtain⟨xs,x,hq,hx⟩:=hg;obtain⟨ai,rv,p,hz⟩:=I.tuple hq;obtain⟨u,hu,ru⟩:=rv.get hx;obtain⟨f0,f1,f2,f3,f4,f5⟩:=hf it (by simp);refine wpAny_pyNext_tuple_item st (show s.heap.IsTuple a ai.toArray from p) (x:=u) (by simpa using hu) λh' jq sb=>?_;have I1:Inv X pins σ H { s with heap:=h' }:=I.turned (t':=s.toks) (λb o hb e=>(sb.2 b hb).trans e) f0 f1 f3 f4 f5;obtain⟨o,e,c,d⟩:=id jq;exact⟨u,rfl,rp (s:={ s with heap:=h' }) e c d (by decide) ⟨x,H,I1,ru,⟨rfl,λys hy=>by rw[I.uh hy hq];exact hx⟩,jq,λb hb=>(hf b hb).1⟩⟩
 done:=by intro X hP hw hK hc i pins s σ H E I hf st hg;subst hP hw hK;obtain⟨xs,hq,hx⟩:=hg;obtain⟨ai,rv,p,hz⟩:=I.tuple hq;obtain⟨f0,f1,f2,f3,f4,f5⟩:=hf it (by simp);have hl:=rv.length;exact wpAny_pyNext_tuple_end (I.ok.hd hc) st (show s.heap.IsTuple a ai.toArray from p) (by simp;omega) λh' eb=>⟨rfl,I.turned (t':=s.toks) (λb o hb e=>eb b o hb e) f0 f1 f3 f4 f5⟩
 self:=λ_ _ _ _ _ st h=>wpAny_pyIter_tupleiter st h
theorem AF {P:Program}{w:World}{K:Fg}{tg:Expr}(it:Addr)(lo:Int)(n:Nat):Turn P w K tg (Gz lo n) [it] it (λi h=>IsRangeIter h it (lo+(i:Nat)*1) ((n:Int)-(i:Nat)) 1) where
 mem:=by simp
 obj:=λi h st b hb=>by
  have e:b=it:=by simpa using hb
  subst e;exact⟨_,st,λv z=>by have z':Data.fields _=Data.cell v:=z;cases z'⟩
 keep:=λi h h' st k=>k it (by simp) _ st
 item:=by intro X hP hw hK hc i pins s σ H E I hf st hg;subst hP hw hK;obtain⟨f0,f1,f2,f3,f4,f5⟩:=hf it (by simp);have W:=Walks.range (prog:=X.prog) (w:=X.w) (I.ok.hd hc) it lo 1 n;refine W.item i s _ _ hg st λv h' tk hv jq kk=>?_;obtain⟨t,rfl⟩:=hv;have I1:Inv X pins σ H { s with heap:=h',toks:=tk }:=I.turned (λb o hb e=>kk b o (by simpa using hb) e) f0 f1 f3 f4 f5;refine⟨_,rfl,rp (s:={ s with heap:=h',toks:=tk }) (n:="range_iterator") jq rfl rfl (by decide) ⟨.int (lo+i),H,I1,⟨t,?_⟩,⟨rfl,rfl⟩,jq,λb hb=>(hf b hb).1⟩⟩;rw[Int.mul_one]
 done:=by intro X hP hw hK hc i pins s σ H E I hf st hg;subst hP hw hK;obtain⟨f0,f1,f2,f3,f4,f5⟩:=hf it (by simp);exact wpAny_pyNext_range_end (I.ok.hd hc) st (by have:n<=i:=hg;omega) λh' eb=>⟨rfl,I.turned (t':=s.toks) (λb o hb e=>eb b o hb e) f0 f1 f3 f4 f5⟩
 self:=λ_ _ _ _ _ st h=>wpAny_pyIter_rangeiter st h
section
variable {X:Cx}{tg:Expr}
theorem DZ {pins:List (Addr×Obj)}{σ:St}{H:Hp}{s:Sh}{R:It->Hp->Prop}{E:Value->Sh->Prop}{lo hi:Int}{t u v:Tok}{tk:Nat}(I:Inv X pins σ H s)(h1:-(2 ^ 62)<=lo)(h2:lo<2 ^ 62)(h3:-(2 ^ 62)<=hi)(h4:hi<2 ^ 62)
 (q:R (Gz lo (hi-lo).toNat) H):wpAny (model X.prog X.w) X.A (pyIter (.ref s.heap.objs.size)) (Ov X pins σ tg R) E { s with heap:=s.heap.push { cls:=.type "range",data:=.fields #[.int lo t,.int hi u,.int 1 v] },toks:=tk }:=by
 refine wpAny_pyIter_range (IsRange.new ..) (small_one h1 h2 h3 h4) ?_;have I1:Inv X pins σ H { s with heap:=s.heap.push { cls:=.type "range",data:=.fields #[.int lo t,.int hi u,.int 1 v] },toks:=tk }:=I.kept λb o e=>Heap.get?_push_of_some _ e;refine⟨(s.heap.push { cls:=.type "range",data:=.fields #[.int lo t,.int hi u,.int 1 v] }).objs.size,[(s.heap.push { cls:=.type "range",data:=.fields #[.int lo t,.int hi u,.int 1 v] }).objs.size],_,_,H,rfl,
  I1.kept (t':=tk) λb o e=>Heap.get?_push_of_some _ e,AF _ lo (hi-lo).toNat,?_,λb hb=>?_,q⟩
 .have e1:lo+((0:Nat):Int)*1=lo:=by simp
  have e2:(((hi-lo).toNat:Nat):Int)-((0:Nat):Int)=Builtin.Range.rangeSize lo hi 1:=by rw[rangeSize_one];split<;>omega
  show IsRangeIter _ _ (lo+((0:Nat):Int)*1) ((((hi-lo).toNat:Nat):Int)-((0:Nat):Int)) 1;rw[e1,e2];exact Heap.get?_push_size _ rfl
 .have e:b=(s.heap.push { cls:=.type "range",data:=.fields #[.int lo t,.int hi u,.int 1 v] }).objs.size:=by simpa using hb
  subst e;exact I1.me (Nat.le_refl _) (I1.aw.fresh (Nat.le_refl _))
def AY (ta:TA):TI:=λσ H R=>ta σ H λvs H1=>∃j:Int,vs=[.int j]/\-(2 ^ 62)<=j/\j<2 ^ 62/\R (Gz 0 j.toNat) H1
theorem uq {a:Expr}{ta:TA}{p pos:Pos}(hg:Gl X "range")(hm:X.mg "range" = none)(ha:PA X [a] ta)(hs:starEach [a] X.env=[(false,eval a X.env)]:=by rfl):PI X tg (.Call (.Name "range" p) [a] [] pos) (AY ta):=by
 intro pins s σ H R I h;refine Call_ (m6 I hg hm boot_range (PyProof.Rows.callWith_type1 (aK (ha pos pins s σ H _ I h) λus s1 ⟨vs,H1,I1,r1,q1⟩=>?_) hs rfl));obtain⟨j,e,q1,q2,q⟩:=q1;subst e;cases r1 with
 | cons r rr=>cases rr;obtain⟨t,rfl⟩:=r;exact call_range_1 (DZ I1 (by omega) (by omega) q1 q2 (by simpa using q))
def OI (wi:TI)(g:TG)(tb:TS):TS:=λD σ H=>wi σ H λJ H1=>∃W:Nat->Nat->St->Hp->Prop,(∃m,W 0 m σ H1)/\∀i m σ H,W i m σ H ->
 (J.stop i H/\D.nx σ H)\/(J.go i H/\∃N:St->Hp->Prop,(∀σ' H',N σ' H'->∃m',m'<m/\W (i+1) m' σ' H')/\∀x H',J.xB i H x H'->g x σ H' λσ2 H2=>tb { D with nx:=N,ct:=N,bk:=D.nx } σ2 H2)
def la (fp:List Addr)(h:Heap):List (Addr×Obj):=fp.filterMap λb=>(h.get? b).map λo=>(b,o)
theorem jx {fp:List Addr}{h:Heap}{b:Addr}{o:Obj}(hb:b∈fp)(e:h.get? b=some o):(b,o)∈la fp h:=List.mem_filterMap.mpr ⟨b,hb,by rw[e];rfl⟩
theorem tP {fp:List Addr}{h:Heap}{p:Addr×Obj}(hp:p∈la fp h):p.1∈fp/\h.get? p.1=some p.2:=by
 obtain⟨b,hb,e⟩:=List.mem_filterMap.mp hp;cases q:h.get? b with
 | none=>rw[q] at e;cases e
 | some o=>rw[q] at e;have e':(b,o)=p:=Option.some.inj e;subst e';exact⟨hb,q⟩
theorem Inv.pinned {pins:List (Addr×Obj)}{σ:St}{H:Hp}{s:Sh}{fp:List Addr}(I:Inv X pins σ H s)(hf:∀b∈fp,eL X pins H b)(ho:∀b∈fp,∃o,s.heap.get? b=some o/\∀v,o.data ≠ .cell v):Inv X (pins++la fp s.heap) σ H s:=
 I.oF λp hp=>(List.mem_append.mp hp).elim (λz=>I.pin p (List.mem_append_right _ z)) λz=>by obtain⟨hb,e⟩:=tP z;obtain⟨f0,f1,f2,_⟩:=hf p.1 hb;obtain⟨o,e',d⟩:=ho p.1 hb;rw[e] at e';cases e';exact⟨e,f0,f1,f2,d⟩
theorem Inv.fL {pins pl:List (Addr×Obj)}{σ:St}{H:Hp}{s:Sh}(I:Inv X (pins++pl) σ H s):Inv X pins σ H s:=I.oF λp hp=>I.pin p (List.mem_append_right _ (List.mem_append_left _ hp))
theorem mW {iter:Expr}{body:List Stmt}{wi:TI}{g:TG}{tb:TS}{pos:Pos}(hp:PassesOwn (model X.prog X.w) X.A X.env X.xe)(hc:X.calm=true)(hi:PI X tg iter wi)(hg:PG X tg g)(hb:iy X body tb)
 (hs:∀x,foldedSetIterable iter X.env x=pure x:=by intro _;rfl):PS X (.For tg iter body [] pos) (OI wi g tb):=by
 intro pins s σ H D I h;refine wpAny_For (aK (hi pins s σ H _ I h) λv s1 h1=>aK h1 λitv s2 h2=>?_) hs;obtain⟨it,fp,tn,J,H2,e,I2,T,Dy,f2,W,⟨m0,w0⟩,turn⟩:=h2;subst e;have qw:∀{H':Hp},(∀b∈fp,H' b=none)->∀b∈fp,eL X pins H' b:=λhn b hb=>⟨hn b hb,(f2 b hb).2⟩;refine codeAny_forLoop_any (λn s'=>∃i σ' H',Inv X pins σ' H' s'/\tn i s'.heap/\(∀b∈fp,H' b=none)/\W i n σ' H') ?_ m0 ⟨0,σ,H2,I2,Dy,λb hb=>(f2 b hb).1,w0⟩;rintro n s3 ⟨i,σ3,H3,I3,Dz,xC,w3⟩;rcases turn i n σ3 H3 w3 with⟨stop,qn⟩|⟨go,N,hN,step⟩
 .refine wpAny_passesOwn hp (aK (T.done X rfl rfl rfl hc i pins s3 σ3 H3 X.xe I3 (qw xC) Dz stop) λr s4 ⟨hr,I4⟩=>?_);subst hr;exact wpAny_execs_nil ⟨σ3,H3,I4,qn⟩
 .refine wpAny_passesOwn hp (aK (T.item X rfl rfl rfl hc i pins s3 σ3 H3 X.xe I3 (qw xC) Dz go) λr s4 ⟨u,hr,h4⟩=>?_);subst hr;refine wpAny_passesOwn hp (aK h4 λ_ s5 ⟨x,H5,I5,r5,y5,xD,fr5⟩=>?_);have I5':=I5.pinned (qw fr5) (T.obj _ _ xD);refine wpAny_passesOwn hp (aK (hg _ s5 σ3 H5 x u _ I5' r5 (step x H5 y5)) λ_ s6 ⟨σ6,H6,I6,q6⟩=>?_);refine wpAny_passesOwn hp (aK (hb _ s6 σ6 H6 _ I6 q6) λf s7 q7=>?_);have again:∀{σ7:St} {H7:Hp},Inv X (pins++la fp s5.heap) σ7 H7 s7->N σ7 H7->∃m,m<n/\∃i σ' H',Inv X pins σ' H' s7/\tn i s7.heap/\(∀b∈fp,H' b=none)/\W i m σ' H':=λ{σ7 H7} I7 n7=>by obtain⟨m',hm,w7⟩:=hN σ7 H7 n7;refine⟨m',hm,i+1,σ7,H7,I7.fL,T.keep _ _ _ xD λb hb o e=>(I7.pin (b,o) (List.mem_append_right _ (List.mem_append_right _ (jx hb e)))).1,λb hb=>?_,w7⟩;obtain⟨o,e,d⟩:=T.obj _ _ xD b hb;exact(I7.pin (b,o) (List.mem_append_right _ (List.mem_append_right _ (jx hb e)))).2.1
  cases f with
  | next=>obtain⟨σ7,H7,I7,n7⟩:=q7;exact again I7 n7
  | cont=>obtain⟨σ7,H7,I7,n7⟩:=q7;exact again I7 n7
  | brk=>obtain⟨σ7,H7,I7,q7⟩:=q7;exact⟨σ7,H7,I7.fL,q7⟩
  | ret v=>obtain⟨x7,σ7,H7,I7,r7,q7⟩:=q7;exact⟨x7,σ7,H7,I7.fL,r7,q7⟩
end
abbrev R2:=V->V->Hp->VK->Prop
def bP (X:Cx)(f:Value->Value->Sem Value)(r:R2):Prop:=
 ∀(pins:List (Addr×Obj)) (s:Sh) (σ:St) (H:Hp) (x y:V) (v u:Value) (Q:VK),Inv X pins σ H s->RelV x v->RelV y u->r x y H Q ->
  wpAny (model X.prog X.w) X.A (f v u) (EP X pins σ Q) X.xe s
def Km (X:Cx)(f:Value->Sem Value)(r:V->Hp->VK->Prop):Prop:=
 ∀(pins:List (Addr×Obj)) (s:Sh) (σ:St) (H:Hp) (x:V) (v:Value) (Q:VK),Inv X pins σ H s->RelV x v->r x H Q ->
  wpAny (model X.prog X.w) X.A (f v) (EP X pins σ Q) X.xe s
def dz (X:Cx)(f:Value)(r:List V->Hp->VK->Prop):Prop:=
 ∀(pins:List (Addr×Obj)) (s:Sh) (σ:St) (H:Hp) (xs:List V) (us:List Value) (Q:VK),Inv X pins σ H s->Vals xs us->r xs H Q ->
  wpAny (model X.prog X.w) X.A (call f us) (EP X pins σ Q) X.xe s
def OB (X:Cx)(r:V->Hp->(Bool->Hp->Prop)->Prop):Prop:=
 ∀(pins:List (Addr×Obj)) (s:Sh) (σ:St) (H:Hp) (x:V) (v:Value) (Q:Bool->Hp->Prop),Inv X pins σ H s->RelV x v->r x H Q ->
  wpAny (model X.prog X.w) X.A (truthy v) (TP X pins σ Q) X.xe s
def BH (r:R2)(ta tb:TE):TE:=λσ H Q=>ta σ H λx H1=>tb σ H1 λy H2=>r x y H2 Q
def Pg (r:V->Hp->VK->Prop)(ta:TE):TE:=λσ H Q=>ta σ H λx H1=>r x H1 Q
def rI (C:Int->Int->Prop)(g:Int->Int->V):R2:=λx y H Q=>∃i j,x = .int i/\y = .int j/\C i j/\Q (g i j) H
def pA (g:Int->Int->V):R2:=λx y H Q=>∃i j,x = .int i/\y = .int j/\Q (g i j) H
def rU (g:Int->V):V->Hp->VK->Prop:=λx H Q=>∃i,x = .int i/\Q (g i) H
section
variable {X:Cx}{a b c:Expr}{ta tb tc:TE}{pos:Pos}
theorem FP (ha:PE X a ta)(hb:PE X b tb){pins:List (Addr×Obj)}{s:Sh}{σ:St}{H:Hp}{R:V->V->Hp->Prop}(I:Inv X pins σ H s)
 (h:ta σ H λx H1=>tb σ H1 λy H2=>R x y H2) {Q:Value->Sh->Prop} {f:Value->Value->Sem Value}
 (hf:∀v u s2 x y H2,Inv X pins σ H2 s2->RelV x v->RelV y u->R x y H2->wpAny (model X.prog X.w) X.A (f v u) Q X.xe s2):
 wpAny (model X.prog X.w) X.A (eval a X.env) (λv s₁=>wpAny (model X.prog X.w) X.A (eval b X.env) (λu s₂=>wpAny (model X.prog X.w) X.A (f v u) Q X.xe s₂) X.xe s₁) X.xe s:=by
 refine aK (ha pins s σ H _ I h) λv s1 ⟨x,H1,I1,r1,q1⟩=>?_;refine aK (hb pins s1 σ H1 _ I1 q1) λu s2 ⟨y,H2,I2,r2,q2⟩=>?_;exact hf v u s2 x y H2 I2 r1 r2 q2
theorem Nb {op:Operator}{r:R2}(ho:bP X (binaryOp op) r)(ha:PE X a ta)(hb:PE X b tb):PE X (.BinOp a op b pos) (BH r ta tb):=by intro pins s σ H Q I h;exact wpAny_BinOp (FP ha hb I h λv u s2 x y H2 I2 rx ry q=>ho pins s2 σ H2 x y v u Q I2 rx ry q)
theorem Ar {op:UnaryOp}{r:V->Hp->VK->Prop}(ho:Km X (unaryOp op) r)(ha:PE X a ta):PE X (.UnaryOp op a pos) (Pg r ta):=by intro pins s σ H Q I h;exact UnaryOp_ (aK (ha pins s σ H _ I h) λv s1 ⟨x,H1,I1,r1,q1⟩=>ho pins s1 σ H1 x v Q I1 r1 q1)
theorem G6 {f:Value->Value->Sem Value}{C:Int->Int->Prop}{g:Int->Int->Int}
 (rule:∀(i j:Int) (t u:Tok) (s:Sh) (Q:Value->Sh->Prop) (E:Value->Sh->Prop),C i j->Q (.int (g i j) s.toks) { s with toks:=s.toks+1 }->wpAny (model X.prog X.w) X.A (f (.int i t) (.int j u)) Q E s):
 bP X f (rI C λi j=>.int (g i j)):=by
 intro pins s σ H x y v u Q I rx ry h;obtain⟨i,j,rfl,rfl,hc,q⟩:=h;obtain⟨t,rfl⟩:=rx;obtain⟨t',rfl⟩:=ry;exact rule i j t t' s _ _ hc ⟨.int (g i j),H,I.tok _,⟨_,rfl⟩,q⟩
theorem JM {f:Value->Value->Sem Value}{g:Int->Int->Int}
 (rule:∀(i j:Int) (t u:Tok) (s:Sh) (Q:Value->Sh->Prop) (E:Value->Sh->Prop),Q (.int (g i j) s.toks) { s with toks:=s.toks+1 }->wpAny (model X.prog X.w) X.A (f (.int i t) (.int j u)) Q E s):
 bP X f (pA λi j=>.int (g i j)):=by
 intro pins s σ H x y v u Q I rx ry h;obtain⟨i,j,rfl,rfl,q⟩:=h;obtain⟨t,rfl⟩:=rx;obtain⟨t',rfl⟩:=ry;exact rule i j t t' s _ _ ⟨.int (g i j),H,I.tok _,⟨_,rfl⟩,q⟩
theorem zK {f:Value->Value->Sem Value}{g:Int->Int->Bool}
 (rule:∀(i j:Int) (t u:Tok) (s:Sh) (Q:Value->Sh->Prop) (E:Value->Sh->Prop),Q (.bool (g i j)) s->wpAny (model X.prog X.w) X.A (f (.int i t) (.int j u)) Q E s):
 bP X f (pA λi j=>.bl (g i j)):=by
 intro pins s σ H x y v u Q I rx ry h;obtain⟨i,j,rfl,rfl,q⟩:=h;obtain⟨t,rfl⟩:=rx;obtain⟨t',rfl⟩:=ry;exact rule i j t t' s _ _ ⟨.bl (g i j),H,I,rfl,q⟩
def Md (i j:Int):Prop:=0<=j/\j<=1000000/\i.natAbs<2 ^ 64
theorem J2:bP X (binaryOp .Add) (pA λi j=>.int (i+j)):=JM λ_ _ _ _ _ _ _ q=>add_int q
theorem MD:bP X (binaryOp .Sub) (pA λi j=>.int (i-j)):=JM λ_ _ _ _ _ _ _ q=>sub_int q
theorem mX:bP X (binaryOp .Mod) (rI (λ_ j=>0<j) λi j=>.int (i%j)):=G6 λi j _ _ _ _ _ hc q=>by have h1:(0:Int)<j:=hc;exact mod_int' (by omega) (by rw[Int.fmod_eq_emod_of_nonneg i (by omega)];exact q)
theorem Mh:bP X (binaryOp .Pow) (rI Md λi j=>.int (i ^ j.toNat)):=G6 λ_ _ _ _ _ _ _ hc q=>pow_int_small hc.1 hc.2.1 hc.2.2 q
theorem Pl {f:Value->Sem Value}{g:Int->Int}
 (rule:∀(i:Int) (t:Tok) (s:Sh) (Q:Value->Sh->Prop) (E:Value->Sh->Prop),Q (.int (g i) s.toks) { s with toks:=s.toks+1 }->wpAny (model X.prog X.w) X.A (f (.int i t)) Q E s):
 Km X f (rU λi=>.int (g i)):=by
 intro pins s σ H x v Q I rx h;obtain⟨i,rfl,q⟩:=h;obtain⟨t,rfl⟩:=rx;exact rule i t s _ _ ⟨.int (g i),H,I.tok _,⟨_,rfl⟩,q⟩
theorem vt:Km X (unaryOp .USub) (rU λi=>.int (-i)):=Pl λ_ _ _ _ _ q=>neg_int q
end
section
variable {X:Cx}{a b c:Expr}{ta tb tc:TE}{pos:Pos}
theorem vC {pins:List (Addr×Obj)}{σ:St}{H:Hp}{s:Sh}{Q:VK}{k k':Bool}(I:Inv X pins σ H s)(q:Q (.bl k) H)(e:k=k'):EP X pins σ Q (.bool k') s:=by subst e;exact⟨.bl k,H,I,rfl,q⟩
theorem Ng:bP X (compareOp .Lt) (pA λi j=>.bl (decide (i<j))):=zK λ_ _ _ _ _ _ _ q=>lt_int q
theorem N5:bP X (compareOp .LtE) (pA λi j=>.bl (decide (i<=j))):=zK λ_ _ _ _ _ _ _ q=>le_int q
theorem N6:bP X (compareOp .Gt) (pA λi j=>.bl (decide (j<i))):=zK λ_ _ _ _ _ _ _ q=>gt_int q
theorem NZ:bP X (compareOp .GtE) (pA λi j=>.bl (decide (j<=i))):=zK λ_ _ _ _ _ _ _ q=>ge_int q
theorem Dd:bP X (compareOp .In) (λx y H Q=>∃i j,x = .str i/\y = .str j/\Q (.bl (!(Builtin.Str.occurrences j i 0 j.length 1).isEmpty)) H):=by intro pins s σ H x y v u Q I rx ry h;obtain⟨i,j,rfl,rfl,q⟩:=h;obtain⟨t,rfl⟩:=rx;obtain⟨t',rfl⟩:=ry;exact in_str (vC I q rfl)
theorem Kp:bP X (compareOp .Is) (λx y H Q=>y = .aj/\Q (.bl (decide (x = .aj))) H):=by
 intro pins s σ H x y v u Q I rx ry h;obtain⟨rfl,q⟩:=h;cases ry;refine is_none_gen (vC I q ?_);cases x<;>first
  | (cases rx;rfl)
  | (obtain⟨t,rfl⟩:=rx;rfl)
theorem HE:bP X (compareOp .IsNot) (λx y H Q=>y = .aj/\Q (.bl (!decide (x = .aj))) H):=by
 intro pins s σ H x y v u Q I rx ry h;obtain⟨rfl,q⟩:=h;cases ry;refine isnot_none_gen (vC I q ?_);cases x<;>first
  | (cases rx;rfl)
  | (obtain⟨t,rfl⟩:=rx;rfl)
theorem bP.or {f:Value->Value->Sem Value}{r r':R2}(h:bP X f r)(h':bP X f r'):bP X f (λx y H Q=>r x y H Q\/r' x y H Q):=by
 intro pins s σ H x y v u Q I rx ry q;rcases q with q | q
 .exact h pins s σ H x y v u Q I rx ry q
 .exact h' pins s σ H x y v u Q I rx ry q
theorem IL {op:CmpOp}{r:R2}(ho:bP X (compareOp op) r)(ha:PE X a ta)(hb:PE X b tb)(hm:behindInMarks op b=false):PE X (.Compare a [op] [b] pos) (BH r ta tb):=by intro pins s σ H Q I h;exact wpAny_Compare1 (FP ha hb I h λv u s2 x y H2 I2 rx ry q=>ho pins s2 σ H2 x y v u Q I2 rx ry q) hm
def Gi (t:TE):TT:=λσ H Q=>t σ H λx H'=>∃k,x = .bl k/\Q k H'
theorem Iw {op:CmpOp}{r:R2}(ho:bP X (compareOp op) r)(ha:PE X a ta)(hb:PE X b tb)(hm:behindInMarks op b=false):PT X (.Compare a [op] [b] pos) (Gi (BH r ta tb)):=by
 intro pins s σ H Q I h;refine wpAny_isTrue_Compare1 (aK (ha pins s σ H _ I h) λv s1 ⟨x,H1,I1,r1,q1⟩=>aK (hb pins s1 σ H1 _ I1 q1) λu s2 ⟨y,H2,I2,r2,q2⟩=>
  aK (ho pins s2 σ H2 x y v u _ I2 r1 r2 q2) λc s3 ⟨z,H3,I3,r3,k,e,q3⟩=>?_) hm
 subst e;cases r3;exact wpAny_truthy_bool ⟨H3,I3,q3⟩
def we (r r':R2)(ta tb tc:TE):TE:=λσ H Q=>ta σ H λx H1=>tb σ H1 λy H2=>r x y H2 λz H3=>∃k,z = .bl k /\
 (if k=true then tc σ H3 λw' H4=>r' y w' H4 Q else Q (.bl false) H3)
theorem DT {op xE:CmpOp}{r r':R2}(ho:bP X (compareOp op) r)(ho':bP X (compareOp xE) r')(ha:PE X a ta)(hb:PE X b tb)(hc:PE X c tc)
 (hm:lastMarks [op,xE] [b,c]=false:=by with_unfolding_all rfl):PE X (.Compare a [op,xE] [b,c] pos) (we r r' ta tb tc):=by
 intro pins s σ H Q I h;refine Compare_chain (aK (ha pins s σ H _ I h) λv s1 ⟨x,H1,I1,r1,q1⟩=>chain_link (aK (hb pins s1 σ H1 _ I1 q1) λu s2 ⟨y,H2,I2,r2,q2⟩=>
  aK (ho pins s2 σ H2 x y v u _ I2 r1 r2 q2) λd s3 ⟨z,H3,I3,r3,k,e,q3⟩=>?_)) hm
 subst e;cases r3;refine wpAny_truthy_bool ?_;cases k with
 | false=>exact ite_ff ⟨.bl false,H3,I3,rfl,q3⟩
 | true=>exact ite_tt (chain_last (aK (hc pins s3 σ H3 _ I3 q3) λw' s4 ⟨z',H4,I4,r4,q4⟩=>ho' pins s4 σ H4 y z' u w' Q I4 r2 r4 q4))
theorem EF {op xE:CmpOp}{r r':R2}(ho:bP X (compareOp op) r)(ho':bP X (compareOp xE) r')(ha:PE X a ta)(hb:PE X b tb)(hc:PE X c tc)
 (hm:lastMarks [op,xE] [b,c]=false:=by with_unfolding_all rfl):PT X (.Compare a [op,xE] [b,c] pos) (Gi (we r r' ta tb tc)):=by
 intro pins s σ H Q I h;refine isTrue_chain (aK (ha pins s σ H _ I h) λv s1 ⟨x,H1,I1,r1,q1⟩=>test_link (aK (hb pins s1 σ H1 _ I1 q1) λu s2 ⟨y,H2,I2,r2,q2⟩=>
  aK (ho pins s2 σ H2 x y v u _ I2 r1 r2 q2) λd s3 ⟨z,H3,I3,r3,k,e,q3⟩=>?_)) hm
 subst e;cases r3;refine wpAny_truthy_bool ?_;cases k with
 | false=>obtain⟨k',e',q'⟩:=q3;cases e';exact ite_ff ⟨H3,I3,q'⟩
 | true=>refine ite_tt (test_last (aK (hc pins s3 σ H3 _ I3 q3) λw' s4 ⟨z',H4,I4,r4,q4⟩=>aK (ho' pins s4 σ H4 y z' u w' _ I4 r2 r4 q4) λd' s5 ⟨z2,H5,I5,r5,k2,e2,q5⟩=>?_));subst e2;cases r5;exact wpAny_truthy_bool ⟨H5,I5,q5⟩
def FH (K:Fg)(x:V)(H:Hp)(k:Bool):Prop:=
 match x with
 | .aj=>k=false
 | .bl b=>k=b
 | .int i=>k=(i != 0)
 | .str y=>y.length<=sizeLine/\k=((y.length:Int) != 0)
 | .pH y=>y.size<=sizeLine/\k=((y.size:Int) != 0)
 | .ref p=>(∃xs,cB K H p xs/\k = !xs.isEmpty)\/(∃xs,cz K H p xs/\k = !xs.isEmpty)\/∃af,H p=some (.dK af)/\k = !af.isEmpty
 | _=>False
theorem Am {κ:Type}{af:List (κ×V)}{vs:List (κ×Value)}(r:KV af vs):(!vs.isEmpty) = !af.isEmpty:=by cases r<;>rfl
theorem qC {xs:List V}{ai:List Value}(r:Vals xs ai):(!ai.toArray.isEmpty) = !xs.isEmpty:=by cases r<;>simp
theorem nN:(sizeLine:Nat)<2 ^ 63:=by rw[sizeLine_eq];decide
theorem Kz:OB X (λx H Q=>∃k,FH X.K x H k/\Q k H):=by
 intro pins s σ H x v Q I rx h;obtain⟨k,e,q⟩:=h;have hl:=nN;have hs:sizeLine=16777216:=sizeLine_eq;cases x with
 | aj=>cases rx;have e':k=false:=e;subst e';exact truthy_none ⟨H,I,q⟩
 | bl b=>cases rx;have e':k=b:=e;subst e';exact wpAny_truthy_bool ⟨H,I,q⟩
 | int i=>obtain⟨t,rfl⟩:=rx;have e':k=(i != 0):=e;subst e';exact PySem.P.truthy_int ⟨H,I,q⟩
 | str y=>obtain⟨t,rfl⟩:=rx;obtain⟨hy,e'⟩:y.length<=sizeLine/\k=((y.length:Int) != 0):=e;subst e';exact PySem.P.truthy_str (by omega) ⟨H,I.tok _,q⟩
 | pH y=>obtain⟨t,rfl⟩:=rx;obtain⟨hy,e'⟩:y.size<=sizeLine/\k=((y.size:Int) != 0):=e;subst e';exact W.truthy_bytes (by omega) ⟨H,I.tok _,q⟩
 | ref p=>
  cases rx;have e':(∃xs,cB X.K H p xs/\k = !xs.isEmpty)\/(∃xs,cz X.K H p xs/\k = !xs.isEmpty)\/∃af,H p=some (.dK af)/\k = !af.isEmpty:=e;rcases e' with⟨xs,hx,e'⟩|⟨xs,hx,e'⟩|⟨af,hx,e'⟩
  .subst e';obtain⟨ai,r,pl,hz⟩:=I.list hx;have hlen:=r.length;exact wpAny_truthy_list pl.isList (by simp only[List.size_toArray];omega) ⟨H,I.tok _,by rw[qC r];exact q⟩
  .subst e';obtain⟨ai,r,pl,hz⟩:=I.tuple hx;have hlen:=r.length;exact truthy_tuple pl (by simp only[List.size_toArray];omega) ⟨H,I.tok _,by rw[qC r];exact q⟩
  .subst e';obtain⟨hz,hS,vs,r,m⟩:af.length<=sizeLine/\(p==sysModules)=false/\∃vs,KV af vs/\s.heap.DictOf (aR X.prog X.w) p vs:=I.aw p _ hx;have hlen:af.length=vs.length:=Paired.length r;exact wpAny_truthy_dict hS m (by omega) ⟨H,I.tok _,by rw[Am r];exact q⟩
 | _=>exact(show False from e).elim
theorem Fh (ha:PE X a ta)(he:∀whole,isTrue a X.env whole=(do let v <-whole;standAt a.pos;holding [v] (truthy v))):
 PT X a (λσ H Q=>ta σ H λx H'=>∃k,FH X.K x H' k/\Q k H'):=by
 intro pins s σ H Q I h;exact isTrue_plain (aK (ha pins s σ H _ I h) λv s1 ⟨x,H1,I1,r1,q1⟩=>Kz pins s1 σ H1 x v Q I1 r1 q1) (he _)
theorem vals1 {x:V}{us:List Value}(r:Vals [x] us):∃u,us=[u]/\RelV x u:=by
 cases r with
 | cons r1 r2=>cases r2;exact⟨_,rfl,r1⟩
theorem vals2 {x y:V}{us:List Value}(r:Vals [x,y] us):∃u w',us=[u,w']/\RelV x u/\RelV y w':=by
 cases r with
 | cons r1 r2=>
  cases r2 with
  | cons r3 r4=>cases r4;exact⟨_,_,rfl,r1,r3⟩
theorem Cm (hc:X.calm=true):dz X (.builtin "max") (λxs H Q=>∃i j,xs=[.int i,.int j]/\Q (.int (if j > i then j else i)) H):=by
 intro pins s σ H xs us Q I r h;obtain⟨i,j,rfl,q⟩:=h;obtain⟨u,w',rfl,⟨t,rfl⟩,⟨t',rfl⟩⟩:=vals2 r;refine max_two_ints (I.ok.hd hc) λh' tk k=>⟨_,H,I.kept k,?_,q⟩
 by_cases hj:j > i
 .rw[if_pos hj,if_pos hj];exact⟨_,rfl⟩
 .rw[if_neg hj,if_neg hj];exact⟨_,rfl⟩
theorem Ds (hc:X.calm=true):dz X (.builtin "min") (λxs H Q=>∃i j,xs=[.int i,.int j]/\Q (.int (if j<i then j else i)) H):=by
 intro pins s σ H xs us Q I r h;obtain⟨i,j,rfl,q⟩:=h;obtain⟨u,w',rfl,⟨t,rfl⟩,⟨t',rfl⟩⟩:=vals2 r;refine min_two_ints (I.ok.hd hc) λh' tk k=>⟨_,H,I.kept k,?_,q⟩
 by_cases hj:j<i
 .rw[if_pos hj,if_pos hj];exact⟨_,rfl⟩
 .rw[if_neg hj,if_neg hj];exact⟨_,rfl⟩
def Lp (K:Fg)(x:V)(H:Hp)(n:Nat):Prop:=
 match x with
 | .str y=>y.length<=sizeLine/\n=y.length
 | .pH y=>y.size<=sizeLine/\n=y.size
 | .ref p=>(∃xs,cB K H p xs/\n=xs.length)\/∃xs,cz K H p xs/\n=xs.length
 | _=>False
theorem Ef:dz X (.builtin "len") (λxs H Q=>∃x n,xs=[x]/\Lp X.K x H n/\Q (.int n) H):=by
 intro pins s σ H xs us Q I r h;obtain⟨x,n,rfl,e,q⟩:=h;obtain⟨u,rfl,rx⟩:=vals1 r;have hl:=nN;have hs:sizeLine=16777216:=sizeLine_eq;cases x with
 | str y=>obtain⟨t,rfl⟩:=rx;obtain⟨hy,e'⟩:y.length<=sizeLine/\n=y.length:=e;subst e';exact len_str (by omega) ⟨.int _,H,I.tok _,⟨_,rfl⟩,q⟩
 | pH y=>obtain⟨t,rfl⟩:=rx;obtain⟨hy,e'⟩:y.size<=sizeLine/\n=y.size:=e;subst e';exact W.len_bytes (by omega) ⟨.int _,H,I.tok _,⟨_,rfl⟩,q⟩
 | ref p=>
  cases rx;have e':(∃xs,cB X.K H p xs/\n=xs.length)\/∃xs,cz X.K H p xs/\n=xs.length:=e;rcases e' with⟨xs,hx,e'⟩|⟨xs,hx,e'⟩
  .subst e';obtain⟨ai,r',pl,hz⟩:=I.list hx;have hlen:=r'.length;exact Calls.call_len_list pl.isList (by simp only[List.size_toArray];omega) ⟨.int xs.length,H,I.tok _,⟨_,by simp only[List.size_toArray];rw[hlen]⟩,q⟩
  .subst e';obtain⟨ai,r',pl,hz⟩:=I.tuple hx;have hlen:=r'.length;exact len_tuple pl (by simp only[List.size_toArray];omega) ⟨.int xs.length,H,I.tok _,⟨_,by simp only[List.size_toArray];rw[hlen]⟩,q⟩
 | _=>exact(show False from e).elim
end
structure p8 (h:Heap)(x dx C:Addr)(mA:Str->Option Value):Prop where
 obj:h.get? x=some (W.instObj C dx)
 ns:h.Ns1 dx mA
 ne:dx≠x
theorem C6 {h:Heap}{dx:Addr}{mA:Str->Option Value}(n:h.Ns1 dx mA):∃od,h.get? dx=some od/\∀name,W.lookIn name od=some (mA name):=by
 obtain⟨o,es,ep,ho,hd,hk,_,hm⟩:=n;refine⟨o,ho,λname=>?_⟩;have e:=hm name;unfold nsFind findBy at e;rw[<-Array.find?_toList] at e;unfold W.lookIn;rw[hd];dsimp only;split
 .rename_i y q;rw[q] at e;exact congrArg some e
 .rename_i q;rw[q] at e;have a:es.toList.any (·.refKey)=false:=by rw[List.any_eq_false];intro y hy;obtain⟨z,t,Bd⟩:=hk y (Array.mem_toList_iff.mp hy);simp[DictEntry.refKey,Bd]
  have a':¬es.toList.any (·.refKey)=true:=by rw[a];exact Bool.false_ne_true
  rw[if_neg a'];exact congrArg some e
theorem p8.look {h:Heap}{x dx C:Addr}{mA:Str->Option Value}(I:p8 h x dx C mA):∃od,W.InstAt h x (W.instObj C dx) C (some od)/\∀name,W.lookIn name od=some (mA name):=
 let ⟨od,ho,hl⟩:=C6 I.ns
 ⟨od,⟨I.obj,rfl,rfl,ho⟩,hl⟩
section
variable {prog:Program}{w:World}{A:Around}{E:Value->Sh->Prop}{s:Sh}{K:Fg}{x dx C f:Addr}{mA:Str->Option Value}{name:Str}{v:Value}
theorem get_map {expr:Bool}{Q:Value->Sh->Prop}(X:K.In s.heap)(I:p8 s.heap x dx C mA)(hg:W.plainGet K C name=true)(hh:W.hasDictIn K C=true)
 (ha:W.findIn K (.ref C) name=some none) (hv:mA name=some v) (hv':W.handedIn v=true) (h:Q v { s with toks:=s.toks+1 }):
 wpAny (model prog w) A (getAttr (.ref x) name expr) Q E s:=by
 obtain⟨od,J,hl⟩:=I.look;exact W.get_value X J (W.plainGet_of hg).1 (W.findObj_own hh ha rfl (by rw[hl,hv])) hv' h
theorem FJ {pl:Sem Bool}{Q:Value×List Value->Sh->Prop}(X:K.In s.heap)(I:p8 s.heap x dx C mA)(hg:W.plainGet K C name=true)
 (hf:W.findIn K (.ref C) name=some (some (.ref f))) (ht:W.isFn K (.ref f)=true) (hv:mA name=none) (h:Q (.ref f,[.ref x]) s):
 wpAny (model prog w) A (getMethod (.ref x) name pl) Q E s:=by
 obtain⟨od,J,hl⟩:=I.look;exact W.method_fn X J (W.plainGet_of hg).1 (W.plainGet_of hg).2 hf (beq_iff_eq.mp ht) (by show (W.lookIn name od).map (·.isSome)=some false;rw[hl,hv];rfl) h
theorem IS {ns:List Str}{Q:Unit->Sh->Prop}(X:K.In s.heap)(I:p8 s.heap x dx C mA)
 (hs:W.findIn K (.ref C) "__setattr__" = some (some (.builtin "object.__setattr__"))) (hp:W.plainOver K C=true) (ht:W.takerIn K C name=some none) (hh:W.hasDictIn K C=true)
 (hw:PySem.Within mA ns) (hsz:ns.length<=sizeLine)
 (h:∀h',p8 h' x dx C (λy=>if y=name then some v else mA y)->Heap.SameBut dx s.heap h'->Q () { s with heap:=h',toks:=s.toks+2 }):
 wpAny (model prog w) A (setAttr (.ref x) name v) Q E s:=by
 obtain⟨od,J,hl⟩:=I.look;refine W.set_plain X J hs (W.osa_open (s:={ s with toks:=s.toks+1 }) (r:=none) X J hp ht λb=>?_);obtain⟨cd,hc,jo⟩:=W.any_some hh;have hx:s.heap.get? x=some ⟨.ref C,some dx,.plain,#[]⟩:=I.obj;refine wpAny_bind (wpAny_pure (wpAny_bind (wpAny_bind (wpAny_loadPart hx (wpAny_bind (W.Looks.here (s:={ s with toks:=s.toks+1 }) (W.looks_clsIn X hc) ?_))))));rw[jo];refine wpAny_pure (a:=some dx) (wpAny_bind (wpAny_pure (wpAny_bind ?_)));refine wpAny_nsSet1 (s:={ s with toks:=s.toks+1 }) I.ns λh' hn2 xF=>?_;obtain⟨oD,esD,epD,hoD,hdD,hcD⟩:=hn2.count (PySem.Within.cons name v hw);refine wpAny_bind (wpAny_lookBehind hoD (by rw[hdD];exact pastItsLine_dict (Nat.le_trans hcD (by rw[List.length_cons];omega))) ?_);exact wpAny_pure (h _ ⟨(xF.2 _ (Ne.symm I.ne)).trans I.obj,hn2,I.ne⟩ xF)
theorem vI {R:Result->Sh->Prop}{vs:List Value}{kw:List (Str×Value)}(X:K.In s.heap)(hm:W.makesIn K C=true)
 (hi:W.findIn K (.ref C) "__init__" = some (some (.ref f))) (hf:W.typeIn K (.ref f)=some (.type "function"))
 (h:codeAny (model prog w) (A.under (.builtin "type.__call__" ⟨.ref C::vs,kw⟩)) (.call (.ref f) ⟨.ref (s.heap.objs.size+1)::vs,kw⟩) (W.InitBack (s.heap.objs.size+1) R)
   { s with heap:=(s.heap.push W.emptyDict).push (W.instObj C s.heap.objs.size) }):
 codeAny (model prog w) A (.call (.ref C) ⟨vs,kw⟩) R s:=by
 obtain⟨hh,g,d,t,os⟩:=s;exact W.make_core (W.makes_of X hm) (W.looks_findIn X hi) (λself=>W.bind_fn X self hf) (.inl rfl) h
end
def fu (f:Str)(v:V):List (Str×V)->List (Str×V)
 | []=>[(f,v)]
 | (g,x)::r=>if g=f then (g,v)::r else (g,x)::fu f v r
theorem pb (f g:Str)(v:V):∀fs:List (Str×V),(fu f v fs).lookup g=if g=f then some v else fs.lookup g
 | []=>by
  show List.lookup g [(f,v)]=_
  by_cases h:g=f
  .have hb:(g==f)=true:=beq_iff_eq.mpr h;simp only[List.lookup,hb,if_pos h]
  .have hb:(g==f)=false:=beq_eq_false_iff_ne.mpr h;simp only[List.lookup,hb,if_neg h]
 | (k,x)::r=>by
  have ih:=pb f g v r;rw[show fu f v ((k,x)::r)=(if k=f then (k,v)::r else (k,x)::fu f v r) from rfl]
  by_cases hk:k=f
  .rw[if_pos hk]
   by_cases h:g=k
   .have hb:(g==k)=true:=beq_iff_eq.mpr h;simp only[List.lookup,hb,if_pos (h.trans hk)]
   .have hb:(g==k)=false:=beq_eq_false_iff_ne.mpr h;simp only[List.lookup,hb,if_neg (λe:g=f=>h (e.trans hk.symm))]
  .rw[if_neg hk]
   by_cases h:g=k
   .have hb:(g==k)=true:=beq_iff_eq.mpr h;simp only[List.lookup,hb,if_neg (λe:g=f=>hk (h.symm.trans e))]
   .have hb:(g==k)=false:=beq_eq_false_iff_ne.mpr h;simp only[List.lookup,hb];exact ih
theorem nI (f:Str)(v:V):∀fs:List (Str×V),f∈(fu f v fs).map (·.1)/\∀g,g∈fs.map (·.1)->g∈(fu f v fs).map (·.1)
 | []=>⟨by simp[fu],λg h=>by simp at h⟩
 | (k,x)::r=>by
  obtain⟨i1,i2⟩:=nI f v r;rw[show fu f v ((k,x)::r)=(if k=f then (k,v)::r else (k,x)::fu f v r) from rfl]
  by_cases hk:k=f
  .rw[if_pos hk];subst hk;exact⟨by simp,λg h=>by simpa using h⟩
  .rw[if_neg hk];refine⟨?_,λg h=>?_⟩
   .rw[List.map_cons];exact List.mem_cons_of_mem _ i1
   .rw[List.map_cons] at h ⊢;rcases List.mem_cons.mp h with e | e
    .exact List.mem_cons.mpr (.inl e)
    .exact List.mem_cons_of_mem _ (i2 g e)
theorem pC (f:Str)(v:V):∀fs:List (Str×V),(fu f v fs).length<=fs.length+1
 | []=>by simp[fu]
 | (k,x)::r=>by
  have ih:=pC f v r;rw[show fu f v ((k,x)::r)=(if k=f then (k,v)::r else (k,x)::fu f v r) from rfl]
  by_cases hk:k=f
  .rw[if_pos hk,List.length_cons,List.length_cons];omega
  .rw[if_neg hk,List.length_cons,List.length_cons];omega
theorem fD.some_of {v:V}{o:Option Value}(r:fD (some v) o):∃u,o=some u/\RelV v u:=by
 cases o with
 | none=>exact(show False from r).elim
 | some u=>exact⟨u,rfl,r⟩
theorem fD.none_of {o:Option Value}(r:fD none o):o=none:=by
 cases o with
 | none=>rfl
 | some u=>exact(show False from r).elim
theorem CU {v:V}{u:Value}(r:RelV v u):W.handedIn u=true:=by
 cases v with
 | aj=>cases (show u=Value.none from r);rfl
 | bl b=>cases (show u=Value.bool b from r);rfl
 | int i=>obtain⟨t,e⟩:=(show ∃t,u=Value.int i t from r);cases e;rfl
 | str x=>obtain⟨t,e⟩:=(show ∃t,u=Value.str x t from r);cases e;rfl
 | pH b=>obtain⟨t,e⟩:=(show ∃t,u=Value.bytes b t from r);cases e;rfl
 | sf b=>obtain⟨t,e⟩:=(show ∃t,u=Value.float b t from r);cases e;rfl
 | ref a=>cases (show u=Value.ref a from r);rfl
 | ty n=>cases (show u=Value.type n from r);rfl
section
variable {P:Program}{w:World}{H H':Hp}{h h':Heap}{a C dx:Addr}{fs fs':List (Str×V)}
theorem n5 (aw:aL P w H h)(e:H a=some (.ins C dx fs)):∃mA,p8 h a dx C mA/\(∀f,fD (fs.lookup f) (mA f))/\PySem.Within mA (fs.map (·.1))/\fs.length<=1000/\H dx=some (.own a):=by obtain⟨d,z,ne,ob,mA,n,r,q⟩:=(show aV P w H h a (.ins C dx fs) from aw a _ e);exact⟨mA,⟨ob,n,ne⟩,r,q,z,d⟩
end
structure gB (K:Fg)(C:Addr):Prop where
 pg:W.plainGet K C Str.empty=true
 hd:W.hasDictIn K C=true
 po:W.plainOver K C=true
 sa:W.findIn K (.ref C) "__setattr__" = some (some (.builtin "object.__setattr__"))
theorem gB.get {K:Fg}{C:Addr}(c:gB K C)(f:Str):W.plainGet K C f=true:=c.pg
def gY (K:Fg)(C:Addr)(f:Str):Prop:=W.findIn K (.ref C) f=some none
theorem gY.Nr {K:Fg}{C:Addr}{f:Str}(n:gY K C f):W.takerIn K C f=some none:=by unfold W.takerIn;rw[show W.findIn K (.ref C) f=some none from n];rfl
structure Meth (K:Fg)(C:Addr)(m:Str)(f:Addr):Prop where
 at_:W.findIn K (.ref C) m=some (some (.ref f))
 fn:W.isFn K (.ref f)=true
 kp:W.keepIn K (.ref f)=true
section
variable {X:Cx}{pins:List (Addr×Obj)}{σ:St}{H:Hp}{s:Sh}{a C dx:Addr}{fs:List (Str×V)}{f:Str}{v:V}{A:Around}{E:Value->Sh->Prop}
theorem AG {b:Bool}{Q:Value->Sh->Prop}(I:Inv X pins σ H s)(e:H a=some (.ins C dx fs))(c:gB X.K C)(n:gY X.K C f)(l:fs.lookup f=some v)
 (h:∀u s',Inv X pins σ H s'->RelV v u->Q u s'):wpAny (model X.prog X.w) A (getAttr (.ref a) f b) Q E s:=by
 obtain⟨mA,O,r,_,_,_⟩:=n5 I.aw e;obtain⟨u,hu,ru⟩:=fD.some_of (v:=v) (o:=mA f) (by rw[<-l];exact r f);exact get_map I.eh O (c.get f) c.hd n hu (CU ru) (h u _ (I.tok _) ru)
theorem rZ {m:Str}{g:Addr}{pl:Sem Bool}{Q:Value×List Value->Sh->Prop}(I:Inv X pins σ H s)(e:H a=some (.ins C dx fs))(c:gB X.K C)(k:Meth X.K C m g)(l:fs.lookup m=none)
 (h:Q (.ref g,[.ref a]) s):wpAny (model X.prog X.w) A (getMethod (.ref a) m pl) Q E s:=by
 obtain⟨mA,O,r,_,_,_⟩:=n5 I.aw e;have hn:mA m=none:=fD.none_of (by rw[<-l];exact r m);exact FJ I.eh O (c.get m) k.at_ k.fn hn h
theorem zL {y:V}{u:Value}{Q:Unit->Sh->Prop}(I:Inv X pins σ H s)(e:H a=some (.ins C dx fs))(c:gB X.K C)(n:gY X.K C f)(hl:fs.length<1000)(ry:RelV y u)
 (h:∀s',Inv X pins σ (upd H a (.ins C dx (fu f y fs))) s'->Q () s'):wpAny (model X.prog X.w) A (setAttr (.ref a) f u) Q E s:=by
 obtain⟨mA,O,r,wi,_,ho⟩:=n5 I.aw e;have hz:(fs.map (·.1)).length<=sizeLine:=by rw[List.length_map,sizeLine_eq];omega
 refine IS I.eh O c.sa c.po n.Nr c.hd wi hz λh' O' sb=>h _ ?_;have hd:∃o,h'.get? dx=some o:=let ⟨o,_,_,e',_⟩:=O'.ns;⟨o,e'⟩
 refine I.write (x:=a) (e:=dx) (by rw[e];exact True.intro) (.inr ho) (λb q hb z=>(sb.2 b hb).trans z) hd ?_;refine⟨by rw[ax O.ne];exact ho,?_,O.ne,O'.obj,_,O'.ns,λg=>?_,λg hg=>?_⟩
 .have:=pC f y fs;omega
 .show fD ((fu f y fs).lookup g) (if g=f then some u else mA g);rw[pb]
  by_cases q:g=f
  .rw[if_pos q,if_pos q];exact ry
  .rw[if_neg q,if_neg q];exact r g
 .by_cases q:g=f
  .rw[q];exact(nI f y fs).1
  .refine(nI f y fs).2 g (wi g λz=>hg ?_);show (if g=f then some u else mA g)=none;rw[if_neg q];exact z
theorem Inv.made (I:Inv X pins σ H s):Inv X pins σ (upd (upd H s.heap.objs.size (.own (s.heap.objs.size+1))) (s.heap.objs.size+1) (.ins C s.heap.objs.size []))
 { s with heap:=(s.heap.push W.emptyDict).push (W.instObj C s.heap.objs.size) }:=by
 have e1:(s.heap.push W.emptyDict).get? s.heap.objs.size=some W.emptyDict:=Heap.get?_push_size s.heap rfl;have e2:((s.heap.push W.emptyDict).push (W.instObj C s.heap.objs.size)).get? (s.heap.objs.size+1)=some (W.instObj C s.heap.objs.size):=by
  have:=Heap.get?_push_size (s.heap.push W.emptyDict) (o:=W.instObj C s.heap.objs.size) rfl
  rwa [Heap.size_push] at this
 have e3:(s.heap.push W.emptyDict).Ns s.heap.objs.size (λ_=>none):=⟨W.emptyDict,#[],_,e1,rfl,(λe he=>absurd he (by simp)),λ_=>rfl⟩;have I1:=I.laid (a:=s.heap.objs.size) (o:=.own (s.heap.objs.size+1)) (h':=s.heap.push W.emptyDict) (t':=s.toks) (λb u q=>Heap.get?_push_of_some _ q) (Nat.le_refl _) ⟨_,e1⟩;refine I1.laid (a:=s.heap.objs.size+1) (o:=.ins C s.heap.objs.size []) (t':=s.toks) (λb u q=>Heap.get?_push_of_some _ q) (Nat.le_of_eq (Heap.size_push _ _)) ?_;have ne:s.heap.objs.size≠s.heap.objs.size+1:=Nat.ne_of_lt (Nat.lt_succ_self _);refine⟨by rw[ax ne,az],Nat.zero_le _,ne,e2,λ_=>none,(Heap.Ns1.of_empty e3).at λo q=>Heap.get?_push_of_some _ q,λ_=>True.intro,λy hy=>absurd rfl hy⟩
theorem Ii {prog:Program}{w:World}{env:Env}{e:Expr}{f:Str}{pos:Pos}{s:Sh}{Q:Value->Sh->Prop}(hb:attributeBase e f env (eval e env)=eval e env)
 (h:wpAny (model prog w) A (eval e env) (λo s₁=>wpAny (model prog w) A (getAttr o f true) Q E s₁) E s):wpAny (model prog w) A (eval (.Attribute e f pos) env) Q E s:=
 Attribute_any_ h (by rw[arm_eval_Attribute,hb])
end
def OW (K:Fg)(ta:TE)(f:Str):TE:=λσ H Q=>ta σ H λx H1=>∃a C dx fs v,x = .ref a/\H1 a=some (.ins C dx fs)/\gB K C/\gY K C f/\fs.lookup f=some v/\Q v H1
def Pc (K:Fg)(ta tv:TE)(f:Str):TS:=λD σ H=>tv σ H λy H1=>ta σ H1 λx H2=>∃a C dx fs,x = .ref a/\H2 a=some (.ins C dx fs)/\gB K C/\gY K C f/\fs.length<1000 /\
 D.nx σ (upd H2 a (.ins C dx (fu f y fs)))
section
variable {X:Cx}{o e value:Expr}{f:Str}{pos pos' Be:Pos}{ta tv:TE}
theorem LS (he:PE X e ta)(hb:attributeBase e f X.env (eval e X.env)=eval e X.env):PE X (.Attribute e f pos) (OW X.K ta f):=by intro pins s σ H Q I h;refine Ii hb (aK (he pins s σ H _ I h) λu s1 ⟨x,H1,I1,rx,a,C,dx,fs,v,ex,ea,c,n,l,q⟩=>?_);subst ex;obtain rfl:u=Value.ref a:=rx;exact AG I1 ea c n l λu' s2 I2 ru=>⟨v,H1,I2,ru,q⟩
theorem Kt (ha:PE X o ta)(hv:PE X value tv)(hs:swapsWith value (some (.Attribute o f pos')) pos.line X.env=pure false):PS X (.Assign [.Attribute o f pos'] value pos) (Pc X.K ta tv f):=by intro pins s σ H D I h;refine plainObj_wpAny_Assign_Attribute (aK (hv pins s σ H _ I h) λu s1 ⟨y,H1,I1,ry,q⟩=>aK (ha pins s1 σ H1 _ I1 q) λov s2 ⟨x,H2,I2,rx,a,C,dx,fs,ex,ea,c,n,l,q2⟩=>?_) hs;subst ex;obtain rfl:ov=Value.ref a:=rx;exact zL I2 ea c n l ry λs3 I3=>⟨σ,_,I3,q2⟩
end
section
variable {X:Cx}{pins:List (Addr×Obj)}{σ:St}{H:Hp}{s:Sh}{A:Around}{E:Value->Sh->Prop}{Q:Value->Sh->Prop}{c:Value}{b:Bool}
inductive gZ (K:Fg) (H:Hp):V->Value->Prop where
 | aj:gZ K H .aj (.type "NoneType")
 | bl (x:Bool):gZ K H (.bl x) (.type "bool")
 | int (i:Int):gZ K H (.int i) (.type "int")
 | str (x:Str):gZ K H (.str x) (.type "str")
 | sf (x:UInt64):gZ K H (.sf x) (.type "float")
 | lst {a:Addr} {xs:List V} (e:H a=some (.lst xs)):gZ K H (.ref a) (.type "list")
 | bQ {a:Addr} {o:Obj} {xs:List V} (e:H a=some (.bQ o (.lst xs))):gZ K H (.ref a) (.type "list")
 | tup {a:Addr} {xs:List V} (e:H a=some (.tup xs)):gZ K H (.ref a) (.type "tuple")
 | dK {a:Addr} {af:List (Key×V)} (e:H a=some (.dK af)):gZ K H (.ref a) (.type "dict")
 | dT {a:Addr} {af:List (List Key×V)} (e:H a=some (.dT af)):gZ K H (.ref a) (.type "dict")
 | ins {a C dx:Addr} {fs:List (Str×V)} (e:H a=some (.ins C dx fs)) (cl:gB K C) (ha:W.findIn K (.ref C) "__class__" = some (some (.builtin "object.__class__")))
  (hn:W.specialIn K (.builtin "object.__class__") "__get__" = some (some (.builtin "getset_descriptor.__get__"))) (htk:W.takesIn K (.builtin "object.__class__")=some true)
  (hm:W.mroIn K C (.type "object")=some true):gZ K H (.ref a) (.ref C)
theorem Dl {x:V}{u t:Value}(I:Inv X pins σ H s)(rx:RelV x u)(ty:gZ X.K H x t)(e:W.kitOne X.K t c=some b)(h:∀tk,Q (.bool b) { s with toks:=tk }):
 wpAny (model X.prog X.w) A (call (.builtin "isinstance") [u,c]) Q E s:=by
 cases ty with
 | aj=>cases (show u=Value.none from rx);exact W.kia_one W.kitx_none I.eh True.intro e (λz=>nomatch z) h
 | bl y=>cases (show u=Value.bool y from rx);exact W.kia_one W.kitx_bool I.eh True.intro e (λz=>nomatch z) h
 | int i=>obtain⟨t,q⟩:=(show ∃t,u=Value.int i t from rx);cases q;exact W.kia_one W.kitx_int I.eh True.intro e (λz=>nomatch z) h
 | str y=>obtain⟨t,q⟩:=(show ∃t,u=Value.str y t from rx);cases q;exact W.kia_one W.kitx_str I.eh True.intro e (λz=>nomatch z) h
 | sf y=>obtain⟨t,q⟩:=(show ∃t,u=Value.float y t from rx);cases q;exact W.kia_one W.kitx_float I.eh True.intro e (λz=>nomatch z) h
 | @lst a xs ea=>cases (show u=Value.ref a from rx);obtain⟨_,_,n,_,h1⟩:=(show aV X.prog X.w H s.heap a (.lst xs) from I.aw a _ ea);exact W.kia_one W.kitx_list I.eh ⟨_,h1,rfl⟩ e (λz=>nomatch z) h
 | @bQ a ob xs ea=>cases (show u=Value.ref a from rx);obtain⟨_,_,_,n,_,h1⟩:=(show aV X.prog X.w H s.heap a (.bQ ob (.lst xs)) from I.aw a _ ea);exact W.kia_one W.kitx_list I.eh ⟨_,h1,rfl⟩ e (λz=>nomatch z) h
 | @tup a xs ea=>cases (show u=Value.ref a from rx);obtain⟨_,_,_,p⟩:=(show aV X.prog X.w H s.heap a (.tup xs) from I.aw a _ ea);obtain⟨o,h1,h2,_⟩:=p;exact W.kia_one W.kitx_tuple I.eh ⟨o,h1,h2⟩ e (λz=>nomatch z) h
 | @dK a af ea=>cases (show u=Value.ref a from rx);obtain⟨_,_,vs,_,p⟩:=(show aV X.prog X.w H s.heap a (.dK af) from I.aw a _ ea);obtain⟨o,es,ep,h1,h2,_⟩:=p;exact W.kia_one W.kitx_dict I.eh ⟨o,h1,h2.1⟩ e (λz=>nomatch z) h
 | @dT a af ea=>cases (show u=Value.ref a from rx);obtain⟨_,_,xs,_,o,es,ep,h1,h2,_⟩:=(show aV X.prog X.w H s.heap a (.dT af) from I.aw a _ ea);exact W.kia_one W.kitx_dict I.eh ⟨o,h1,h2.1⟩ e (λz=>nomatch z) h
 | @ins a C dx fs ea cl ha hn htk hm=>cases (show u=Value.ref a from rx);obtain⟨mA,O,_⟩:=n5 I.aw ea;obtain⟨od,J,_⟩:=O.look;exact W.kia_one (W.kitx_own (cl.get _) cl.hd ha hn htk hm) I.eh J e (λz=>nomatch z) h
end
structure cT (k:Nat)(A:Around):Prop where
 hd:A.handled=none
 dp:A.depth+3*k+5<recursionLimit
 un:A.units+16*k+200<cLine
theorem cT.mono {j k:Nat}{A:Around}(r:cT k A)(h:j<=k):cT j A:=⟨r.hd,by have:=r.dp;omega,by have:=r.un;omega⟩
theorem cT.deeper {k:Nat}{A:Around}(r:cT (k+1) A)(env:Env):cT k (A.deeper env):=
 ⟨r.hd,by have:=r.dp;show A.depth+1+3*k+5<_;omega,by have:=r.un;show A.units+3+16*k+200<_;omega⟩
theorem An {A:Around}{C:Addr}{us:List Value}{kw:List (Str×Value)}:(A.under (.builtin "type.__call__" ⟨.ref C::us,kw⟩)).depth=A.depth+1:=by
 first | rfl | simp[Around.under,Code.weight,Code.isCreation,Code.isGuard,Code.isCaller,Code.frames,Code.isFrame,guardIds]
theorem Aj {A:Around}{C:Addr}{us:List Value}{kw:List (Str×Value)}:(A.under (.builtin "type.__call__" ⟨.ref C::us,kw⟩)).units=A.units+1:=by
 first | rfl | simp[Around.under,Code.cUnits,Code.frames,Code.isFrame]
theorem cT.make {k:Nat}{A:Around}(r:cT (k+1) A)(C:Addr)(us:List Value)(kw:List (Str×Value)):cT k (A.under (.builtin "type.__call__" ⟨.ref C::us,kw⟩)):=
 ⟨r.hd,by have:=r.dp;rw[An];omega,by have:=r.un;rw[Aj];omega⟩
theorem cT.depth {k:Nat}{A:Around}(r:cT k A):A.depth<recursionLimit:=by have:=r.dp;omega
theorem cT.units {k:Nat}{A:Around}(r:cT k A):A.units+64<cLine:=by have:=r.un;omega
def lO:TA:=λ_ H Q=>Q [] H
def oz (ta:TE)(tr:TA):TA:=λσ H Q=>ta σ H λx H1=>tr σ H1 λxs H2=>Q (x::xs) H2
section
variable {X:Cx}{e:Expr}{es:List Expr}{te:TE}{t:TA}{pos:Pos}
theorem gA:PA X [] lO:=λ_ _ _ _ H Q I h=>Calls.spliced_nil ⟨[],H,I,.nil,h⟩
theorem dW (ha:PE X e te)(hr:PA X es t)(hs:starEach (e::es) X.env=(false,eval e X.env)::starEach es X.env:=by rfl):PA X (e::es) (oz te t):=by intro pos pins s σ H Q I h;rw[hs];show wpAny _ _ (spliced ((false,eval e X.env)::backTo pos (starEach es X.env))) _ _ s;refine Calls.spliced_cons (aK (ha pins s σ H _ I h) λu s1 ⟨x,H1,I1,r1,q1⟩=>?_);exact aK (hr pos pins s1 σ H1 _ I1 q1) λus s2 ⟨xs,H2,I2,r2,q2⟩=>⟨x::xs,H2,I2,.cons r1 r2,q2⟩
def O3 (t:TA):TE:=λσ H Q=>t σ H λxs H1=>xs.length<=sizeLine/\∀p,H1 p=none->Q (.ref p) (upd H1 p (.tup xs))
def O7 (t:TA):TE:=λσ H Q=>t σ H λxs H1=>xs.length<=sizeLine/\∀p,H1 p=none->Q (.ref p) (upd H1 p (.lst xs))
theorem B7 {x1}(h:PA X es t):PE X (.Tuple es x1 pos) (O3 t):=by intro pins s σ H Q I hq;refine wpAny_Tuple_spliced (aK (h pos pins s σ H _ I hq) λus s1 ⟨xs,H1,I1,r,z,q⟩=>⟨by rw[<-r.length];exact z,?_⟩);have hf:H1 s1.heap.objs.size=none:=I1.aw.fresh (Nat.le_refl _);refine⟨.ref s1.heap.objs.size,upd H1 s1.heap.objs.size (.tup xs),I1.laid (t':=s1.toks) (λb u e=>Heap.get?_push_of_some _ e) (Nat.le_refl _) ?_,rfl,q _ hf⟩;exact⟨z,us,r,⟨_,Heap.get?_push_size _ rfl,rfl,_,rfl⟩⟩
theorem JW (h:PA X es t):PE X (.List es pos) (O7 t):=by intro pins s σ H Q I hq;refine wpAny_List_spliced (aK (h pos pins s σ H _ I hq) λus s1 ⟨xs,H1,I1,r,z,q⟩=>⟨by rw[<-r.length];exact z,?_⟩);have hf:H1 s1.heap.objs.size=none:=I1.aw.fresh (Nat.le_refl _);refine⟨.ref s1.heap.objs.size,upd H1 s1.heap.objs.size (.lst xs),I1.laid (t':=s1.toks) (λb u e=>Heap.get?_push_of_some _ e) (Nat.le_refl _) ?_,rfl,q _ hf⟩;exact⟨z,us,0,r,Heap.get?_push_size _ rfl⟩
end
abbrev Sp:=List V->Hp->VK->XK->Prop
abbrev ku:=List Env->Hp->Sh->XK->Value->Sh->Prop
structure pX (P:Program)(w:World)(K:Fg)(mg:Str->Option Value)(base:Heap)(A:Around)(outer:List Env)(s:Sh)(H:Hp):Prop where
 frames:A.frames=some outer
 mod:Mod K mg base
 bs:∀b o,base.get? b=some o->s.heap.get? b=some o/\H b=none
 pI:base.objs.size<=s.heap.objs.size
 eB:s.heap.FunFrames base outer
 uD:∀b∈lr outer,H b=none
 aw:aL P w H s.heap
 bare:AllBare s.gens
def CE (outer:List Env)(P:Program)(w:World)(H:Hp)(s:Sh)(Q:VK)(u:Value)(s':Sh):Prop:=
 ∃v H',s'.os=s.os/\AllBare s'.gens/\Un (lr outer) [] H H' s.heap s'.heap/\aL P w H' s'.heap/\RelV v u/\Q v H'
def CR (CX:ku)(outer:List Env)(P:Program)(w:World)(H:Hp)(s:Sh)(Q:VK)(E:XK)(r:Result)(s':Sh):Prop:=
 match r with
 | .ok (.ret u)=>CE outer P w H s Q u s'
 | .ok _=>False
 | .error e=>CX outer H s E e s'
structure dM (P:Program)(w:World)(K:Fg)(mg:Str->Option Value)(base:Heap)(CX:ku)(k:Nat)(f:Addr)(fd:FuncData)(ps:List Str)(sp:Sp):Prop where
 len:∀vs H Q E,sp vs H Q E->vs.length=ps.length
 run:∀(A:Around) (outer:List Env) (s:Sh) (H:Hp) (args:Args) (us:List Value) (vs:List V) (Q:VK) (E:XK),cT k A->pX P w K mg base A outer s H->BindsTo s fd args (ps.zip us)->Vals vs us->sp vs H Q E ->
  codeAny (model P w) A (.call (.ref f) args) (CR CX outer P w H s Q E) s
theorem dM.imp {P:Program}{w:World}{K:Fg}{mg:Str->Option Value}{base:Heap}{CX:ku}{k:Nat}{f:Addr}{fd:FuncData}{ps:List Str}{sp sp':Sp}(F:dM P w K mg base CX k f fd ps sp)
 (h:∀vs H Q E,sp' vs H Q E->sp vs H Q E):dM P w K mg base CX k f fd ps sp':=
 ⟨λvs H Q E q=>F.len vs H Q E (h _ _ _ _ q),λA outer s H args us vs Q E hr he hb hv hs=>F.run A outer s H args us vs Q E hr he hb hv (h _ _ _ _ hs)⟩
theorem pX.make {P:Program}{w:World}{K:Fg}{mg:Str->Option Value}{base:Heap}{A:Around}{outer:List Env}{s:Sh}{H:Hp}(e:pX P w K mg base A outer s H)(C:Addr)(us:List Value)(kw:List (Str×Value)):
 pX P w K mg base (A.under (.builtin "type.__call__" ⟨.ref C::us,kw⟩)) outer s H:=⟨by first | exact e.frames | (simpa[Around.under,Code.envs,Code.isFrame,pushEnvs] using e.frames),e.mod,e.bs,e.pI,e.eB,e.uD,e.aw,e.bare⟩
section
variable {X:Cx}{pins:List (Addr×Obj)}{σ:St}{H:Hp}{s s':Sh}
theorem Inv.j7 (I:Inv X pins σ H s):pX X.prog X.w X.K X.mg X.base X.A X.stack s H:=
 ⟨I.ok.frames,I.ok.mod,I.bs,Nat.le_trans I.ok.pI I.sz,I.stack,I.zj,I.aw,I.bare⟩
theorem Inv.after {Q:VK}{u:Value}(I:Inv X pins σ H s)(h:CE X.stack X.prog X.w H s Q u s'):EP X pins σ Q u s':=by obtain⟨v,H',os,bare,un,aw,r,q⟩:=h;obtain⟨hh,g,d,t,os'⟩:=s';obtain rfl:os'=s.os:=os;exact⟨v,H',I.call (h':=hh) (g':=g) (d':=d) (t':=t) (ch:=[]) un aw bare (λb z=>absurd z (by simp)),r,q⟩
end
def GD (sp:Sp)(fw:List V)(E:XK)(t:TA):TE:=λσ H Q=>t σ H λvs H1=>sp (vs++fw) H1 Q E
def Ba (C:Addr)(m:Str)(sp:Sp)(fw:List V)(E:XK)(ta:TE)(t:TA):TE:=λσ H Q=>ta σ H λx H1=>∃a dx fs,x = .ref a/\H1 a=some (.ins C dx fs)/\fs.lookup m=none /\
 t σ H1 λvs H2=>sp (x::(vs++fw)) H2 Q E
def AS (C:Addr)(sp:Sp)(fw:List V)(E:XK)(t:TA):TE:=λσ H Q=>t σ H λvs H1=>∀x dx,H1 x=none->H1 dx=none->dx≠x ->
 sp (.ref x::(vs++fw)) (upd (upd H1 dx (.own x)) x (.ins C dx [])) (λv H2=>v = .aj/\Q (.ref x) H2) E
def Binds (K:Fg)(fd:FuncData)(ps:List Str)(ds:List Value):Prop:=
 ∀(s:Sh) (us:List Value),K.In s.heap->(us++ds).length=ps.length->BindsTo s fd ⟨us,[]⟩ (ps.zip (us++ds))
theorem Binds.all {K:Fg}{fd:FuncData}{ps:List Str}(h:∀us:List Value,us.length=ps.length->bindArgs fd ⟨us,[]⟩=pure (ps.zip us)):Binds K fd ps []:=λs us _ hl=>by rw[List.append_nil] at hl ⊢;exact .of_eq (h us hl)
def Passes (CX:ku)(X:Cx)(E:XK):Prop:=∀(pins:List (Addr×Obj)) (σ:St) (H:Hp) (s:Sh) (e:Value) (s':Sh),Inv X pins σ H s->CX X.stack H s E e s'->X.xe e s'
section
variable {X:Cx}{CX:ku}{k:Nat}{f C:Addr}{fd:FuncData}{ps:List Str}{sp:Sp}{fw:List V}{ds:List Value}{E:XK}{x m:Str}{p pos apos:Pos}{e o:Expr}{es:List Expr}{ta:TE}{t:TA}
theorem rY {pins:List (Addr×Obj)}{σ:St}{H:Hp}{s:Sh}{Q:VK}{us:List Value}{vs:List V}(F:dM X.prog X.w X.K X.mg X.base CX k f fd ps sp)(hr:cT k X.A)(hb:Binds X.K fd ps ds)(hd:Vals fw ds)(hx:Passes CX X E)
 (I:Inv X pins σ H s) (r:Vals vs us) (h:sp (vs++fw) H Q E):wpAny (model X.prog X.w) X.A (call (.ref f) us) (EP X pins σ Q) X.xe s:=by
 have r2:Vals (vs++fw) (us++ds):=r.append hd;have hl:(us++ds).length=ps.length:=by rw[<-r2.length];exact F.len _ _ _ _ h
 refine wpAny_call (codeAny_mono (F.run X.A X.stack s H ⟨us,[]⟩ (us++ds) (vs++fw) Q E hr I.j7 (hb s us I.eh hl) r2 h) λr s' hq=>?_);cases r with
 | error e=>exact hx pins σ H s e s' I hq
 | ok fl=>
  cases fl with
  | ret u=>exact I.after hq
  | next=>exact False.elim hq
  | brk=>exact False.elim hq
  | cont=>exact False.elim hq
theorem Jy (F:dM X.prog X.w X.K X.mg X.base CX k f fd ps sp)(hr:cT k X.A)(hg:Gl X x)(hm:X.mg x=some (.ref f))(hk:W.keepIn X.K (.ref f)=true)(hb:Binds X.K fd ps ds)(hd:Vals fw ds)(hx:Passes CX X E)
 (ha:PA X (e::es) t) (lB:(x==("__debug__":Str))=false:=by decide) (he:starEach (e::es) X.env=(false,eval e X.env)::starEach es X.env:=by rfl) (iz:(backTo pos (starEach es X.env)).any (·.1)=false:=by rfl):
 PE X (.Call (.Name x p) (e::es) [] pos) (GD sp fw E t):=by
 intro pins s σ H Q I h;refine wpAny_Call_Name_kw (jF I hg hm ?_ lB);refine W.callWith_K (h₀:=X.base) I.ok.mod.jg hk (aK (ha pos pins s σ H _ I h) λus s1 ⟨vs,H1,I1,r,q⟩=>⟨I1.eh,?_⟩) he iz;exact rY F hr hb hd hx I1 r q
theorem FD (F:dM X.prog X.w X.K X.mg X.base CX k f fd ps sp)(hr:cT k X.A)(hg:Gl X x)(hm:X.mg x=some (.ref f))(hk:W.keepIn X.K (.ref f)=true)(hb:Binds X.K fd ps ds)(hd:Vals fw ds)(hx:Passes CX X E)
 (lB:(x==("__debug__":Str))=false:=by decide):PE X (.Call (.Name x p) [] [] pos) (GD sp fw E lO):=by
 intro pins s σ H Q I h;refine wpAny_Call_Name_kw (jF I hg hm ?_ lB);exact W.callWith_K0 I.eh hk (rY (us:=[]) F hr hb hd hx I .nil h)
theorem Iz {pl:Sem Bool}(he:PE X o ta)(c:gB X.K C)(hm:Meth X.K C m f)(F:dM X.prog X.w X.K X.mg X.base CX k f fd ps sp)(hr:cT k X.A)(hb:Binds X.K fd ps ds)(hd:Vals fw ds)(hx:Passes CX X E)(ha:PA X (e::es) t)
 (hst:starEach (e::es) X.env=(false,eval e X.env)::starEach es X.env:=by rfl) (iz:(backTo pos (starEach es X.env)).any (·.1)=false:=by rfl)
 (ht:eval (.Call (.Attribute o m apos) (e::es) [] pos) X.env=(do
   let ov <-eval o X.env
   standAt apos.atName
   let (f,first) <-holding [ov] (getMethod ov m pl)
   callWith pos f first (backTo pos (starEach (e::es) X.env)) (backToKw pos (keywordEach [] X.env))):=by rfl):
 PE X (.Call (.Attribute o m apos) (e::es) [] pos) (Ba C m sp fw E ta t):=by
 intro pins s σ H Q I h;refine W.methodCall_KW (pl:=pl) (aK (he pins s σ H _ I h) λu s1 ⟨x,H1,I1,rx,a,dx,fs,ex,ea,l,q⟩=>?_) ht;subst ex;obtain rfl:u=Value.ref a:=rx;refine rZ I1 ea c hm l ?_;refine W.callWith_K (first:=[.ref a]) (h₀:=X.base) I.ok.mod.jg hm.kp (aK (ha pos pins s1 σ H1 _ I1 q) λus s2 ⟨vs,H2,I2,r,q2⟩=>⟨I2.eh,?_⟩) hst iz;exact rY (us:=.ref a::us) (vs:=.ref a::vs) F hr hb hd hx I2 (.cons rfl r) q2
theorem FT {pl:Sem Bool}(he:PE X o ta)(c:gB X.K C)(hm:Meth X.K C m f)(F:dM X.prog X.w X.K X.mg X.base CX k f fd ps sp)(hr:cT k X.A)(hb:Binds X.K fd ps ds)(hd:Vals fw ds)(hx:Passes CX X E)
 (ht:eval (.Call (.Attribute o m apos) [] [] pos) X.env=(do
   let ov <-eval o X.env
   standAt apos.atName
   let (f,first) <-holding [ov] (getMethod ov m pl)
   callWith pos f first (backTo pos (starEach [] X.env)) (backToKw pos (keywordEach [] X.env))):=by rfl):
 PE X (.Call (.Attribute o m apos) [] [] pos) (Ba C m sp fw E ta lO):=by
 intro pins s σ H Q I h;refine W.methodCall_KW (pl:=pl) (aK (he pins s σ H _ I h) λu s1 ⟨x,H1,I1,rx,a,dx,fs,ex,ea,l,q⟩=>?_) ht;subst ex;obtain rfl:u=Value.ref a:=rx;refine rZ I1 ea c hm l ?_;exact W.callWith_K0 (first:=[.ref a]) I1.eh hm.kp (rY (us:=[.ref a]) (vs:=[.ref a]) F hr hb hd hx I1 (.cons rfl .nil) q)
structure Mk (K:Fg)(C f:Addr):Prop where
 makes:W.makesIn K C=true
 init:W.findIn K (.ref C) "__init__" = some (some (.ref f))
 fn:W.isFn K (.ref f)=true
 kp:W.keepIn K (.ref C)=true
theorem wj {pins:List (Addr×Obj)}{σ:St}{H:Hp}{s:Sh}{Q:VK}{us:List Value}{vs:List V}(M:Mk X.K C f)(F:dM X.prog X.w X.K X.mg X.base CX k f fd ps sp)(hr:cT (k+1) X.A)(hb:Binds X.K fd ps ds)(hd:Vals fw ds)
 (hx:Passes CX X E) (I:Inv X pins σ H s) (r:Vals vs us)
 (h:∀x dx,H x=none->H dx=none->dx≠x->sp (.ref x::(vs++fw)) (upd (upd H dx (.own x)) x (.ins C dx [])) (λv H2=>v = .aj/\Q (.ref x) H2) E):
 wpAny (model X.prog X.w) X.A (call (.ref C) us) (EP X pins σ Q) X.xe s:=by
 have hq:=h (s.heap.objs.size+1) s.heap.objs.size (I.aw.fresh (Nat.le_succ _)) (I.aw.fresh (Nat.le_refl _)) (Nat.ne_of_lt (Nat.lt_succ_self _));have I2:=Inv.made (C:=C) I;have r2:Vals (V.ref (s.heap.objs.size+1)::(vs++fw)) (Value.ref (s.heap.objs.size+1)::(us++ds)):=.cons rfl (r.append hd);have hl:(Value.ref (s.heap.objs.size+1)::us++ds).length=ps.length:=by have e:=r2.length;rw[F.len _ _ _ _ hq] at e;exact e.symm
 refine wpAny_call (vI (f:=f) I.eh M.makes M.init (beq_iff_eq.mp M.fn) (codeAny_mono (F.run _ X.stack _ _ ⟨Value.ref (s.heap.objs.size+1)::us,[]⟩ (Value.ref (s.heap.objs.size+1)::(us++ds)) _ _ E (hr.make C us [])
  (I2.j7.make C us []) (hb _ (Value.ref (s.heap.objs.size+1)::us) I2.eh hl) r2 hq) λr s' gD=>?_))
 cases r with
 | error e=>exact hx pins σ _ _ e s' I2 gD
 | ok fl=>
  cases fl with
  | ret u=>obtain⟨v,H',I3,rv,ev,q3⟩:=I2.after gD;subst ev;exact⟨rv,⟨V.ref (s.heap.objs.size+1),H',I3,rfl,q3⟩⟩
  | next=>exact False.elim gD
  | brk=>exact False.elim gD
  | cont=>exact False.elim gD
theorem IC (M:Mk X.K C f)(F:dM X.prog X.w X.K X.mg X.base CX k f fd ps sp)(hr:cT (k+1) X.A)(hg:Gl X x)(hm:X.mg x=some (.ref C))(hb:Binds X.K fd ps ds)(hd:Vals fw ds)(hx:Passes CX X E)
 (ha:PA X (e::es) t) (lB:(x==("__debug__":Str))=false:=by decide) (he:starEach (e::es) X.env=(false,eval e X.env)::starEach es X.env:=by rfl) (iz:(backTo pos (starEach es X.env)).any (·.1)=false:=by rfl):
 PE X (.Call (.Name x p) (e::es) [] pos) (AS C sp fw E t):=by
 intro pins s σ H Q I h;refine wpAny_Call_Name_kw (jF I hg hm ?_ lB);refine W.callWith_K (h₀:=X.base) I.ok.mod.jg M.kp (aK (ha pos pins s σ H _ I h) λus s1 ⟨vs,H1,I1,r,q⟩=>⟨I1.eh,?_⟩) he iz;exact wj M F hr hb hd hx I1 r q
theorem Eh (M:Mk X.K C f)(F:dM X.prog X.w X.K X.mg X.base CX k f fd ps sp)(hr:cT (k+1) X.A)(hg:Gl X x)(hm:X.mg x=some (.ref C))(hb:Binds X.K fd ps ds)(hd:Vals fw ds)(hx:Passes CX X E)
 (lB:(x==("__debug__":Str))=false:=by decide):PE X (.Call (.Name x p) [] [] pos) (AS C sp fw E lO):=by
 intro pins s σ H Q I h;refine wpAny_Call_Name_kw (jF I hg hm ?_ lB);exact W.callWith_K0 I.eh M.kp (wj (us:=[]) M F hr hb hd hx I .nil h)
end
def PK (X:Cx)(kws:List Keyword)(t:TA):Prop:=
 ∀(pos:Pos) (pins:List (Addr×Obj)) (s:Sh) (σ:St) (H:Hp) (Q:List V->Hp->Prop),Inv X pins σ H s->t σ H Q->wpAny (model X.prog X.w) X.A (evalAll ((backToKw pos (keywordEach kws X.env)).map (·.2))) (AP X pins σ Q) X.xe s
section
variable {X:Cx}{CX:ku}{k:Nat}{f C:Addr}{fd:FuncData}{ps ks:List Str}{sp:Sp}{E:XK}{x m:Str}{p pos apos kpos:Pos}{e o:Expr}{es:List Expr}{kws:List Keyword}{te ta:TE}{t tk:TA}{nm:Option Str}
theorem Ky:PK X [] lO:=λ_ _ _ _ H Q I h=>wpAny_evalAll_nil ⟨[],H,I,.nil,h⟩
theorem HH (ha:PE X e te)(hr:PK X kws t):PK X (⟨nm,e,kpos⟩::kws) (oz te t):=by intro pos pins s σ H Q I h;show wpAny _ _ (evalAll ((do let v <-eval e X.env;standAt pos;pure v)::(backToKw pos (keywordEach kws X.env)).map (·.2))) _ _ s;refine wpAny_evalAll_cons (wpAny_bind (aK (ha pins s σ H _ I h) λu s1 ⟨x,H1,I1,r1,q1⟩=>wpAny_bind (wpAny_standAt (wpAny_pure ?_))));exact aK (hr pos pins s1 σ H1 _ I1 q1) λus s2 ⟨xs,H2,I2,r2,q2⟩=>⟨x::xs,H2,I2,.cons r1 r2,q2⟩
structure wx (K:Fg)(fd:FuncData)(ps ks:List Str)(g:List Value->List Value->List Value)(gV:List V->List V->List V):Prop where
 to:∀(s:Sh) (us ws:List Value),K.In s.heap->(g us ws).length=ps.length->BindsTo s fd ⟨us,ks.zip ws⟩ (ps.zip (g us ws))
 rel:∀{vs:List V} {us:List Value} {zs:List V} {ws:List Value},Vals vs us->Vals zs ws->Vals (gV vs zs) (g us ws)
variable {g:List Value->List Value->List Value}{gV:List V->List V->List V}
end
structure fZ (N P:List Str)(sc:Scope):Prop where
 kind:sc.kind = .function
 co:sc.isCoroutine=false
 gen:sc.isGenerator=false
 nd:N.Nodup
 pre:N.take P.length=P
 par:∀x∈P,sc.names.lookup x=some .local\/sc.names.lookup x=some .cell
 MW:∀y∈sc.names,y.2 ≠ .free
theorem tQ {kindOf:Str->Option NameKind}{x:Str}:∀{binds:List (Str×Value)} {m:Str->Option Value},(∀v,(x,v)∉binds)->bindL kindOf binds m x=m x
 | [],_,_=>rfl
 | (n,v)::r,m,h=>by
  unfold bindL;rw[tQ λw hw=>h w (List.mem_cons_of_mem _ hw)];split
  .have:x≠n:=by rintro rfl;exact h v List.mem_cons_self
   simp[this]
  .rfl
theorem um {kindOf:Str->Option NameKind}{x:Str}:∀{binds:List (Str×Value)} {m:Str->Option Value},(∀v,(x,v)∉binds)->bindC kindOf binds m x=m x
 | [],_,_=>rfl
 | (n,v)::r,m,h=>by
  unfold bindC;rw[um λw hw=>h w (List.mem_cons_of_mem _ hw)];split
  .rfl
  .have:x≠n:=by rintro rfl;exact h v List.mem_cons_self
   simp[this]
theorem tN {kindOf:Str->Option NameKind}{x:Str}{v:Value}:∀{P:List Str} {vs:List Value} {i:Nat} {m:Str->Option Value},P.Nodup->P[i]?=some x->vs[i]?=some v->kindOf x=some .local ->
 bindL kindOf (P.zip vs) m x=some v
 | [],_,_,_,_,h,_,_=>by simp at h
 | _::_,[],_,_,_,_,h,_=>by simp at h
 | p::P,w::vs,0,m,nd,h1,h2,hk=>by simp at h1 h2;subst h1;subst h2;show bindL kindOf ((p,w)::P.zip vs) m p=_;unfold bindL;rw[tQ λv hv=>(List.nodup_cons.mp nd).1 (List.of_mem_zip hv).1,if_pos hk];simp
 | p::P,w::vs,i+1,m,nd,h1,h2,hk=>by show bindL kindOf ((p,w)::P.zip vs) m x=_;unfold bindL;exact tN (i:=i) (List.nodup_cons.mp nd).2 (by simpa using h1) (by simpa using h2) hk
theorem uB {kindOf:Str->Option NameKind}{x:Str}{v:Value}:∀{P:List Str} {vs:List Value} {i:Nat} {m:Str->Option Value},P.Nodup->P[i]?=some x->vs[i]?=some v->kindOf x≠some .local ->
 bindC kindOf (P.zip vs) m x=some v
 | [],_,_,_,_,h,_,_=>by simp at h
 | _::_,[],_,_,_,_,h,_=>by simp at h
 | p::P,w::vs,0,m,nd,h1,h2,hk=>by simp at h1 h2;subst h1;subst h2;show bindC kindOf ((p,w)::P.zip vs) m p=_;unfold bindC;rw[um λv hv=>(List.nodup_cons.mp nd).1 (List.of_mem_zip hv).1,if_neg hk];simp
 | p::P,w::vs,i+1,m,nd,h1,h2,hk=>by show bindC kindOf ((p,w)::P.zip vs) m x=_;unfold bindC;exact uB (i:=i) (List.nodup_cons.mp nd).2 (by simpa using h1) (by simpa using h2) hk
def start (N:List Str)(vs:List V):St:=vs.map some++List.replicate (N.length-vs.length) none
def qi (CX:ku)(P:Program)(w:World)(K:Fg)(mg:Str->Option Value)(base:Heap)(N:List Str)(qual:Str)(scope:Scope)(f:Addr)(cd:Value)(A:Around)(outer:List Env)(s:Sh)(H:Hp)(E:XK):Cx where
 prog:=P
 w:=w
 K:=K
 mg:=mg
 base:=base
 A:=A.deeper (envOfC qual scope s.heap.objs.size f cd)
 N:=N
 s₀:=s
 H₀:=H
 env:=envOfC qual scope s.heap.objs.size f cd
 outer:=outer
 stack:=envOfC qual scope s.heap.objs.size f cd::outer
 ex:=[]
 calm:=true
 fn:=λ_=>true
 pn:=[]
 xe:=λe s'=>wpAny (model P w) (A.deeper (envOfC qual scope s.heap.objs.size f cd)) (leaving (envOfC qual scope s.heap.objs.size f cd) e) (λ_ s''=>CX outer H s E e s'') (λe' s''=>CX outer H s E e' s'') s'
theorem vQ {sc:Scope}{n:Nat}{x:Str}(h:sc.names.lookup x=some .cell):∃c,(cellsFrom n sc.names []).lookup x=some c:=by have q:=W.cellsFrom_some sc.names n [] (.inl h);exact Option.isSome_iff_exists.mp q
theorem BY {CX:ku}{P:Program}{w:World}{K:Fg}{mg:Str->Option Value}{base:Heap}{N ps:List Str}{qual:Str}{scope:Scope}{f:Addr}{cd:Value}{A:Around}{outer:List Env}{s s1:Sh}{H:Hp}{E:XK}{us:List Value}{vs:List V}
 (S:fZ N ps scope) (hd:A.handled=none) (e0:pX P w K mg base A outer s H) (hl:vs.length=ps.length) (r:Vals vs us)
 (x:InCallC s s.heap.objs.size (bindL (envOfC qual scope s.heap.objs.size f cd).kindOf (ps.zip us) λ_=>none) (cellsFrom (s.heap.objs.size+1) scope.names []) (bindC (envOfC qual scope s.heap.objs.size f cd).kindOf (ps.zip us) λ_=>none) s1):
 Inv (qi CX P w K mg base N qual scope f cd A outer s H E) [] (start N vs) H s1:=by
 have iz:ps.length<=N.length:=by have:=congrArg List.length S.pre;rw[List.length_take] at this;omega
 obtain⟨h1,tk,rfl,hk⟩:=x.done;have eO:∀b:Addr,b∉(qi CX P w K mg base N qual scope f cd A outer s H E).ex:=λb z=>absurd (show b∈([]:List Addr) from z) (by simp);refine⟨⟨e0.mod,S.kind,rfl,rfl,Nat.le_refl _,λy z c h1 h2=>?_,λy hy=>?_,λy c _ h=>?_,λ_=>hd,Around.frames_deeper e0.frames,.inr ⟨rfl,rfl⟩,λb z=>absurd z (eO b),e0.bs,e0.pI,λb _ _=>eO b,λb z=>absurd z (eO b),e0.eB,e0.uD⟩,
  rfl,e0.bare,Un.kept hk,⟨_,x.toInCall.ns,λi y v h1 h2 h3=>?_⟩,λy c h=>⟨_,x.cell y c h⟩,e0.aw.fresh (Nat.le_refl _),λy c h=>?_,λp hp=>absurd (show p∈([]:List (Addr×Obj)) from hp) (by simp),e0.aw.kept hk,?_⟩
 .exact name_of_addr x.apart (PySem.mem_of_lookup h1) (PySem.mem_of_lookup h2)
 .have hy:scope.names.lookup y=some .cell\/scope.names.lookup y=some .free:=hy;rcases hy with hy | hy
  .exact vQ hy
  .exact absurd rfl (S.MW _ (PySem.mem_of_lookup hy))
 .exact Nat.le_of_lt (x.above y c (PySem.mem_of_lookup h))
 .have hi:i<vs.length:=by
   unfold start at h2
   by_cases hi:i<vs.length
   .exact hi
   .rw[List.getElem?_append_right (by simpa using hi)] at h2;rw[List.getElem?_replicate] at h2;split at h2<;>cases h2
  have ha:vs[i]?=some v:=by
   unfold start at h2;rw[List.getElem?_append_left (by simpa using hi),List.getElem?_map] at h2;cases e:vs[i]? with
   | none=>rw[e] at h2;cases h2
   | some a=>rw[e] at h2;cases h2;rfl
  obtain⟨u,hu,rv⟩:=r.get ha;have hp:ps[i]?=some y:=by rw[<-S.pre,List.getElem?_take_of_lt (by omega)];exact h1
  have ndP:ps.Nodup:=by rw[<-S.pre];exact S.nd.sublist (List.take_sublist _ _)
  refine⟨u,rv,?_⟩;rcases S.par y (List.mem_of_getElem? hp) with k | k
  .exact .inl ⟨k,tN ndP hp hu k⟩
  .obtain⟨c,e⟩:=vQ (n:=s.heap.objs.size+1) k;refine .inr ⟨.inl k,c,e,?_⟩;have q:=x.cell y c e;rw[uB ndP hp hu (by show scope.names.lookup y≠_;rw[k];decide)] at q;exact q
 .exact e0.aw.fresh (Nat.le_of_lt (x.above y c (PySem.mem_of_lookup h)))
 .unfold start;show _=N.length;rw[List.length_append,List.length_map,List.length_replicate];omega
theorem N3 {CX:ku}{P:Program}{w:World}{K:Fg}{mg:Str->Option Value}{base:Heap}{k:Nat}{f:Addr}{name qual:Str}{params:Arguments}{body:List Stmt}{scope:Scope}{dV kV doc pm gS ct oc:Value}{an od:Option Addr}
 {uE:Array (Option Value)} {N ps:List Str} {sp:Sp} (lk:K.lookup f=some ⟨oc,od,.func (W.fnOf name qual params body scope dV kV doc pm an gS ct),uE⟩) (sg:W.codeIn K gS qual=true) (S:fZ N ps scope)
 (len:∀vs H Q E,sp vs H Q E->vs.length=ps.length)
 (Bf:∀(A:Around) (outer:List Env) (s:Sh) (H:Hp) (vs:List V) (Q:VK) (E:XK),cT k (A.deeper (envOfC qual scope s.heap.objs.size f gS))->sp vs H Q E ->
   ∃t,iy (qi CX P w K mg base N qual scope f gS A outer s H E) body t/\t { nx:=λ_ H'=>Q .aj H',rt:=Q } (start N vs) H):
 dM P w K mg base CX (k+1) f (W.fnOf name qual params body scope dV kV doc pm an gS ct) ps sp:=by
 refine⟨len,λA outer s H args us vs Q E hr e0 hb r uF=>?_⟩;have hl:=len _ _ _ _ uF;have KX:K.In s.heap:=e0.mod.jg.keeps λb o e=>(e0.bs b o e).1;have lim:s.heap.NoLimit:=e0.mod.nolimit.keeps λb o e=>(e0.bs b o e).1;have Oa:∀y∈ps.zip us,scope.names.lookup y.1=some .local\/(scope.names.lookup y.1=some .cell/\((cellsFrom (s.heap.objs.size+1) scope.names []).lookup y.1).isSome=true):=λ⟨n,v⟩ hy=>by
  rcases S.par n (List.of_mem_zip hy).1 with q | q
  .exact .inl q
  .exact .inr ⟨q,W.cellsFrom_some _ _ _ (.inl q)⟩
 refine codeAny_call_function hr.depth (KX _ _ lk) rfl S.co S.gen rfl (W.codeRec_of KX sg) (hb _ _ _ _ ?_);refine wpAny_newFunctionEnv_cells S.kind Oa λenv he s1 x=>?_;subst he;refine⟨lim.keeps x.toInCall.keep,codeAny_func ?_⟩;obtain⟨t,ht,hq⟩:=Bf A outer s H vs Q E (hr.deeper _) uF;have I:Inv (qi CX P w K mg base N qual scope f gS A outer s H E) [] (start N vs) H s1:=BY S hr.hd e0 hl r x;refine wpAny_mono (ht [] s1 (start N vs) H _ I hq) (λfl s' hs=>?_) λe s' hs=>hs;have fin:∀{σ':St} {H':Hp} {v:V} {u:Value},Inv (qi CX P w K mg base N qual scope f gS A outer s H E) [] σ' H' s'->RelV v u->Q v H'->CE outer P w H s Q u s':=
  λ{σ' H' v u} J rv q=>⟨v,H',J.os,J.bare,J.base,J.aw,rv,q⟩
 cases fl with
 | ret u=>obtain⟨v,σ',H',J,rv,q⟩:=hs;exact fin J rv q
 | next=>obtain⟨σ',H',J,q⟩:=hs;exact fin (v:=V.aj) (u:=Value.none) J rfl q
 | brk=>obtain⟨_,_,_,q⟩:=hs;exact False.elim q
 | cont=>obtain⟨_,_,_,q⟩:=hs;exact False.elim q
section
variable {X:Cx}{x:Str}{p pos:Pos}{e:Expr}{es:List Expr}{t:TA}{id T:String}{r:List V->Hp->VK->Prop}
def Mn (r:List V->Hp->VK->Prop)(t:TA):TE:=λσ H Q=>t σ H λvs H1=>r vs H1 Q
theorem iD (hc:dz X (.builtin id) r)(hg:Gl X x)(hm:X.mg x=none)(hv:bootBuiltins x=some (.builtin id))(ha:PA X (e::es) t)(hn:x ≠ "__name__":=by decide)(lB:(x==("__debug__":Str))=false:=by decide)
 (he:starEach (e::es) X.env=(false,eval e X.env)::starEach es X.env:=by rfl) (iz:(backTo pos (starEach es X.env)).any (·.1)=false:=by rfl):PE X (.Call (.Name x p) (e::es) [] pos) (Mn r t):=by
 intro pins s σ H Q I h;refine wpAny_Call_Name_kw (m6 I hg hm hv ?_ hn lB);exact PyProof.Rows.callWith_builtin1 (aK (ha pos pins s σ H _ I h) λus s1 ⟨vs,H1,I1,r1,q1⟩=>hc pins s1 σ H1 vs us Q I1 r1 q1) he iz
theorem kq (hc:dz X (.type T) r)(hg:Gl X x)(hm:X.mg x=none)(hv:bootBuiltins x=some (.type T))(ha:PA X (e::es) t)(hn:x ≠ "__name__":=by decide)(lB:(x==("__debug__":Str))=false:=by decide)
 (he:starEach (e::es) X.env=(false,eval e X.env)::starEach es X.env:=by rfl) (iz:(backTo pos (starEach es X.env)).any (·.1)=false:=by rfl):PE X (.Call (.Name x p) (e::es) [] pos) (Mn r t):=by
 intro pins s σ H Q I h;refine wpAny_Call_Name_kw (m6 I hg hm hv ?_ hn lB);exact PyProof.Rows.callWith_type1 (aK (ha pos pins s σ H _ I h) λus s1 ⟨vs,H1,I1,r1,q1⟩=>hc pins s1 σ H1 vs us Q I1 r1 q1) he iz
end
end L2
namespace HT
open PySem PyProof.Rows
section
open PySem.SeqAt
open PySem.AutoSeq1 (wpAny_loadPart')
open PySem.MeetsSeq PySem.MeetsSeq2 PySem.MeetsSeq3
end
section
variable {prog:Program}{w:World}{A:Around}{E:Value->Sh->Prop}{s:Sh}
theorem HZ {t b:Addr}{vs ws:List Value}{Q:Value->Sh->Prop}(ht:IsTup s.heap t vs.toArray)(hb:IsTup s.heap b ws.toArray)(hv:vs≠[])
 (h1:ws=[]->Q (.ref t) s) (h2:ws≠[]->Q (.ref s.heap.objs.size) { s with heap:=s.heap.push { cls:=.type "tuple",data:=.seq (vs++ws).toArray } })
 (hsz:vs.length+ws.length<=sizeLine):wpAny (model prog w) A (binaryOp .Add (.ref t) (.ref b)) Q E s:=by
 obtain⟨⟨cls,dd,data,sl⟩,ho,hc,n,hd⟩:=id ht;obtain⟨⟨cls2,dd2,data2,sl2⟩,pK,DA,n2,hd2⟩:=id hb;simp only at hc hd DA hd2;subst hc hd DA hd2;have e:vs.toArray++ws.toArray=(vs++ws).toArray:=by simp
 by_cases hw:ws=[]
 .exact concat_meets ⟨_,ho,rfl⟩ ⟨_,pK,rfl⟩ noFill_tuple_add seq_tuple_add PySem.F.slot_tuple_add PySem.F.entry_tuple_add (PySem.F.args_tuple_add_2 _ _)
   (tuple_addW1 t b vs.toArray ws.toArray n n2 dd dd2 sl sl2 (by simpa using hv) (by simp[hw])) ⟨ho,pK,h1 hw⟩
 .refine concat_meets ⟨_,ho,rfl⟩ ⟨_,pK,rfl⟩ noFill_tuple_add seq_tuple_add PySem.F.slot_tuple_add PySem.F.entry_tuple_add (PySem.F.args_tuple_add_2 _ _)
   (tuple_addW2 t b vs.toArray ws.toArray n n2 dd dd2 sl sl2 (by simpa using hv) (by simpa using hw) (by rw[List.size_toArray,List.size_toArray];exact hsz)) ⟨ho,pK,?_⟩
  rw[e];exact h2 hw
def aX (n d:Nat):Option Int->Nat
 | none=>d
 | some v=>if v<0 then (v+(n:Int)).toNat else min v.toNat n
theorem Mu (n d:Nat)(hd:d<=n)(o:Option Int):aX n d o<=n:=by
 cases o with
 | none=>exact hd
 | some v=>
  show (if v<0 then (v+(n:Int)).toNat else min v.toNat n)<=n
  by_cases hv:v<0
  .rw[if_pos hv];omega
  .rw[if_neg hv];exact Nat.min_le_right _ _
theorem yq (v:Int)(n d:Nat):(if v<0 then max (v+(n:Int)) 0 else min v (n:Int))=((aX n d (some v):Nat):Int):=by
 show (if v<0 then max (v+(n:Int)) 0 else min v (n:Int))=(((if v<0 then (v+(n:Int)).toNat else min v.toNat n):Nat):Int)
 by_cases hv:v<0
 .simp only[if_pos hv];omega
 .simp only[if_neg hv];omega
theorem AL (lo hi:Option Int)(n:Nat):Builtin.Slice.sliceAdjust lo hi 1 (n:Int)=(((aX n 0 lo:Nat):Int),((aX n n hi:Nat):Int)):=by
 have h1:¬((1:Int)<0):=by omega
 unfold Builtin.Slice.sliceAdjust;simp only[h1,if_false];refine Prod.ext ?_ ?_
 .cases lo with
  | none=>rfl
  | some v=>exact yq v n 0
 .cases hi with
  | none=>rfl
  | some v=>exact yq v n n
theorem zZ (i j:Nat):Builtin.Slice.slicePlaces (i:Int) (j:Int) 1=j-i:=by
 unfold Builtin.Slice.slicePlaces;have h1:(1:Int) > 0:=by omega
 simp only[h1,if_true,Int.ediv_one];split<;>omega
theorem qZ {v:Value}{o:Option Int}{Q:Option Int->Sh->Prop}(p:IsPart v o)(h:Q o s):wpAny (model prog w) A (Builtin.Slice.slicePartIndex v) Q E s:=by
 cases p with
 | none=>exact slicePart_none h
 | int i t=>exact slicePart_int h
theorem jN {sl:Addr}{vl vu:Value}{lo hi:Option Int}{n:Nat}{Q:Int×Int×Nat->Sh->Prop}(hs:s.heap.IsSliceOf sl vl vu .none)(pl:IsPart vl lo)(pu:IsPart vu hi)
 (h:Q (((aX n 0 lo:Nat):Int),1,aX n n hi-aX n 0 lo) s):wpAny (model prog w) A (Builtin.Slice.sliceApplied (.ref sl) (pure (n:Int))) Q E s:=by
 obtain⟨os,si,hcs,pL⟩:=id hs;unfold Builtin.Slice.sliceApplied Builtin.Slice.sliceFields;refine wpAny_bind (wpAny_bind (wpAny_field si pL (x:=vl) rfl (wpAny_bind (wpAny_field si pL (x:=vu) rfl (wpAny_bind (wpAny_field si pL (x:=.none) rfl (wpAny_pure ?_)))))));refine wpAny_bind (slicePart_none ?_);show wpAny _ _ (if ((1:Int)==0)=true then _ else _) _ _ s;rw[if_neg (by decide)];refine wpAny_bind (qZ pl (wpAny_bind (qZ pu (wpAny_bind (wpAny_pure ?_)))));show wpAny _ _ (match Builtin.Slice.sliceAdjust lo hi 1 (n:Int) with | (lo,hi)=>pure (lo,(1:Int),Builtin.Slice.slicePlaces lo hi 1)) _ _ s;rw[AL lo hi n];show wpAny _ _ (pure (((aX n 0 lo:Nat):Int),(1:Int),Builtin.Slice.slicePlaces ((aX n 0 lo:Nat):Int) ((aX n n hi:Nat):Int) 1)) _ _ s;rw[zZ];exact wpAny_pure h
theorem Ei (xs:Array Value)(i k:Nat):((List.range k).filterMap λ(m:Nat)=>xs[((i:Int)+(m:Int)*1).toNat]?).toArray=((xs.toList.drop i).take k).toArray:=by
 have e:(λ(m:Nat)=>xs[((i:Int)+(m:Int)*1).toNat]?)=λm=>xs[i+m]?:=by
  funext m
  have:((i:Int)+(m:Int)*1).toNat=i+m:=by omega
  rw[this]
 rw[e];have:=pick_run xs i k;rw[List.filterMap_map] at this;have e2:((λx=>xs[x]?) ∘ λx=>i+x)=λm=>xs[i+m]?:=rfl;rw[e2] at this;rw[this]
theorem oO {t sl:Addr}{items:Array Value}{vl vu:Value}{lo hi:Option Int}{Q:Value->Sh->Prop}(ht:IsTup s.heap t items)(hs:s.heap.IsSliceOf sl vl vu .none)(pl:IsPart vl lo)(pu:IsPart vu hi)
 (hw:¬(aX items.size 0 lo=0/\aX items.size items.size hi=items.size))
 (h:Q (.ref s.heap.objs.size) { s with heap:=s.heap.push { cls:=.type "tuple",data:=.seq ((items.toList.drop (aX items.size 0 lo)).take (aX items.size items.size hi-aX items.size 0 lo)).toArray } })
 (hsz:items.size<=sizeLine):wpAny (model prog w) A (getItem (.ref t) (.ref sl)) Q E s:=by
 have vk:sizeOk (.seq ((items.toList.drop (aX items.size 0 lo)).take (aX items.size items.size hi-aX items.size 0 lo)).toArray):=by show ((items.toList.drop (aX items.size 0 lo)).take (aX items.size items.size hi-aX items.size 0 lo)).toArray.size<=sizeLine;rw[List.size_toArray,List.length_take,List.length_drop,Array.length_toList];omega
 have hj:aX items.size items.size hi<=items.size:=Mu _ _ (Nat.le_refl _) hi;obtain⟨os,si,hcs,pL⟩:=id hs;have hTs:s.TypeIs (.ref sl) "slice":=⟨os,si,hcs⟩;unfold getItem
 try with_reducible refine wpAny_holding ?_
 first | refine wpAny_bind (wpAny_pure ?_) | skip
 refine wpAny_bind (wpAny_sequenceKey ht.typeIs (by decide) ?_);refine wpAny_bind (wpAny_callSpecial?_slot (name:=Str.ofString "__getitem__") ht.typeIs PyProof.Rows.slot_tuple_getitem
  (wpAny_call_entry PyProof.Rows.slot_tuple_getitem ht.typeIs entry_tuple_getitem ?_ (args_tuple_getitem _ _)))
 show wpAny _ _ (Builtin.Tuple.tupleItemsOf (.ref t) >>= _) _ _ s;refine wpAny_bind (tupleItemsOf_ ht ?_);refine wpAny_bind (wpAny_typeOf hTs ?_);rw[if_pos (by decide)];refine wpAny_bind (jN hs pl pu ?_);have zm:¬((((aX items.size 0 lo:Nat):Int)==0&&(1:Int)==1&&(aX items.size items.size hi-aX items.size 0 lo)==items.size)=true):=by intro q;rw[Bool.and_eq_true,Bool.and_eq_true] at q;have q1:((aX items.size 0 lo:Nat):Int)=0:=eq_of_beq q.1.1;have q2:aX items.size items.size hi-aX items.size 0 lo=items.size:=eq_of_beq q.2;exact hw ⟨by omega,by omega⟩
 show wpAny _ _ (if (((aX items.size 0 lo:Nat):Int)==0&&(1:Int)==1&&(aX items.size items.size hi-aX items.size 0 lo)==items.size)=true then _ else _) _ _ s;rw[if_neg zm,Ei]
 first
  | exact wpAny_bind (m:=Builtin.Tuple.tupleExact _) (wpAny_newObj_type (wpAny_pure ⟨_,rfl,wpAny_pure h⟩) vk)
  | exact wpAny_bind (m:=Builtin.Tuple.tupleExact _) (wpAny_newObj_type (wpAny_bind (wpAny_pure (wpAny_pure ⟨_,rfl,wpAny_pure h⟩))) vk)
  | exact wpAny_bind (wpAny_bind (m:=Builtin.Tuple.tupleExact _) (wpAny_newObj_type (wpAny_pure (wpAny_pure ⟨_,rfl,wpAny_pure h⟩)) vk))
  | exact wpAny_bind (wpAny_bind (m:=Builtin.Tuple.tupleExact _) (wpAny_newObj_type (wpAny_pure ⟨_,rfl,wpAny_pure h⟩) vk))
end
end HT
namespace L2
open PySem PySem.Spec PyProof.Rows
abbrev TO:=St->Hp->(Option Int->Hp->Prop)->Prop
def PO (X:Cx)(e:Option Expr)(t:TO):Prop:=
 ∀(pins:List (Addr×Obj)) (s:Sh) (σ:St) (H:Hp) (Q:Option Int->Hp->Prop),Inv X pins σ H s->t σ H Q ->
  wpAny (model X.prog X.w) X.A (evalPart e X.env) (λu s'=>∃o H',Inv X pins σ H' s'/\IsPart u o/\Q o H') X.xe s
def JI:TO:=λ_ H Q=>Q none H
def Nt (t:TE):TO:=λσ H Q=>t σ H λx H1=>∃i,x = .int i/\Q (some i) H1
section
variable {X:Cx}{e:Expr}{te:TE}{lo hi:Option Expr}{tl th:TO}{pos p2:Pos}
theorem HD:PO X none JI:=by intro pins s σ H Q I h;rw[evalPart_none];exact wpAny_pure ⟨none,H,I,.none,h⟩
theorem HC (h:PE X e te):PO X (some e) (Nt te):=by intro pins s σ H Q I hw;rw[evalPart_some];refine aK (h pins s σ H _ I hw) λu s1 ⟨x,H1,I1,r1,q1⟩=>?_;obtain⟨i,rfl,q⟩:=q1;obtain⟨t,rfl⟩:=r1;exact⟨some i,H1,I1,.int i t,q⟩
def uA (X:Cx)(r:V->Option Int->Option Int->Hp->VK->Prop):Prop:=
 ∀(pins:List (Addr×Obj)) (s:Sh) (σ:St) (H:Hp) (x:V) (v vl vu:Value) (lo hi:Option Int) (sl:Addr) (Q:VK),Inv X pins σ H s->RelV x v->s.heap.IsSliceOf sl vl vu .none->IsPart vl lo->IsPart vu hi->r x lo hi H Q ->
  ∃T id,typeLookup (.type T) "__getitem__" = pure (some (.builtin id))/\s.TypeIs v T/\wpAny (model X.prog X.w) X.A (getItem v (.ref sl)) (EP X pins σ Q) X.xe s
theorem uA.or {r r':V->Option Int->Option Int->Hp->VK->Prop}(h:uA X r)(h':uA X r'):uA X (λx lo hi H Q=>r x lo hi H Q\/r' x lo hi H Q):=by
 intro pins s σ H x v vl vu lo hi sl Q I rx hs pl pu q;rcases q with q | q
 .exact h pins s σ H x v vl vu lo hi sl Q I rx hs pl pu q
 .exact h' pins s σ H x v vl vu lo hi sl Q I rx hs pl pu q
def Pp (r:V->Option Int->Option Int->Hp->VK->Prop)(te:TE)(tl th:TO):TE:=λσ H Q=>te σ H λx H1=>tl σ H1 λl H2=>th σ H2 λu H3=>r x l u H3 Q
theorem D8 {r:V->Option Int->Option Int->Hp->VK->Prop}(hr:uA X r)(he:PE X e te)(hl:PO X lo tl)(hu:PO X hi th):PE X (.Subscript e (.Slice lo hi none p2) pos) (Pp r te tl th):=by intro pins s σ H Q I h;refine Subscript_ (aK (he pins s σ H _ I h) λv s1 ⟨x,H1,I1,r1,q1⟩=>?_);refine wpAny_Slice (aK (hl pins s1 σ H1 _ I1 q1) λvl s2 ⟨l,H2,I2,pl,q2⟩=>aK (hu pins s2 σ H2 _ I2 q2) λvu s3 ⟨u,H3,I3,pu,q3⟩=>?_);rw[evalPart_none];refine wpAny_pure ?_;have I4:Inv X pins σ H3 { s3 with heap:=s3.heap.push { cls:=.type "slice",data:=.fields #[vl,vu,.none] } }:=I3.kept (t':=s3.toks) λb ob q=>Heap.get?_push_of_some _ q;obtain⟨T,id,hT,ht,hg⟩:=hr pins { s3 with heap:=s3.heap.push { cls:=.type "slice",data:=.fields #[vl,vu,.none] } } σ H3 x v vl vu l u s3.heap.objs.size Q I4 r1 (Heap.IsSliceOf.new ..) pl pu q3;show wpAny (model X.prog X.w) X.A (subscriptTail e (.Slice lo hi none p2) v (.ref s3.heap.objs.size)) (EP X pins σ Q) X.xe { s3 with heap:=s3.heap.push { cls:=.type "slice",data:=.fields #[vl,vu,.none] } };exact tail_any (ops:=[.ref s3.heap.objs.size,v]) ht hT hg (by with_unfolding_all rfl)
def mi (xs:List V)(lo hi:Option Int):List V:=(xs.drop (HT.aX xs.length 0 lo)).take (HT.aX xs.length xs.length hi-HT.aX xs.length 0 lo)
theorem pe (xs:List V)(lo hi:Option Int):(mi xs lo hi).length<=xs.length:=by unfold mi;rw[List.length_take,List.length_drop];omega
def OL (K:Fg):V->Option Int->Option Int->Hp->VK->Prop:=λx lo hi H Q=>∃a xs,x = .ref a/\cz K H a xs /\
 ¬(HT.aX xs.length 0 lo=0/\HT.aX xs.length xs.length hi=xs.length)/\∀p,H p=none->Q (.ref p) (upd H p (.tup (mi xs lo hi)))
theorem MA:uA X (OL X.K):=by
 intro pins s σ H x v vl vu lo hi sl Q I rx hs pl pu h;obtain⟨a,xs,rfl,hx,hw,q⟩:=h;cases rx;obtain⟨ai,r,ht,hz⟩:=I.tuple hx;have hlen:ai.toArray.size=xs.length:=by rw[List.size_toArray];exact r.length.symm
 refine⟨"tuple",_,PyProof.Rows.slot_tuple_getitem.lookup,ht.typeIs,?_⟩;refine HT.oO ht hs pl pu (by rw[hlen];exact hw) ?_ (by rw[hlen];exact hz);rw[hlen];refine⟨.ref s.heap.objs.size,_,I.laid (t':=s.toks) (o:=.tup (mi xs lo hi)) (λb ob q=>Heap.get?_push_of_some _ q) (Nat.le_refl _) ?_,rfl,q _ (I.aw.fresh (Nat.le_refl _))⟩;exact⟨Nat.le_trans (pe xs lo hi) hz,_,(r.drop (HT.aX xs.length 0 lo)).take (HT.aX xs.length xs.length hi-HT.aX xs.length 0 lo),IsTup.new _ _⟩
theorem Vals.gM {xs:List V}{us:List Value}(r:Vals xs us):us=[]↔xs=[]:=by
 cases r with
 | nil=>simp
 | cons _ _=>simp
end
def za (n:Nat)(i:Int):Option Nat:=if 0<=i then (if i<n then some i.toNat else none) else if -(n:Int)<=i then some (i+n).toNat else none
def yV {α:Type}(xs:List α)(i:Int):Option α:=(za xs.length i).bind λj=>xs[j]?
theorem yu {n:Nat}{i:Int}{j:Nat}(h:za n i=some j):seqIndex? i n=some j/\j<n/\-(n:Int)<=i/\i<n:=by
 unfold za at h
 by_cases h0:0<=i
 .rw[if_pos h0] at h
  by_cases h1:i<n
  .rw[if_pos h1] at h;have e:i.toNat=j:=Option.some.inj h;exact⟨by rw[seqIndex_of h0 h1,e],by omega,by omega,h1⟩
  .rw[if_neg h1] at h;cases h
 .rw[if_neg h0] at h
  by_cases h1:-(n:Int)<=i
  .rw[if_pos h1] at h;have e:(i+n).toNat=j:=Option.some.inj h;exact⟨by rw[seqIndex_neg (by omega) h1,e],by omega,h1,by omega⟩
  .rw[if_neg h1] at h;cases h
theorem yI {α:Type}{xs:List α}{i:Int}{v:α}(h:yV xs i=some v):∃j,seqIndex? i xs.length=some j/\xs[j]?=some v/\j<xs.length/\-(xs.length:Int)<=i/\i<xs.length:=by
 unfold yV at h;cases e:za xs.length i with
 | none=>rw[e] at h;cases h
 | some j=>rw[e] at h;obtain⟨h1,h2,h3,h4⟩:=yu e;exact⟨j,h1,h,h2,h3,h4⟩
def Ie (b:Expr):Prop:=∀o i,subscripted b false o i=operate [o,i] (getItem o i)
def uC (X:Cx)(r:R2):Prop:=
 ∀(value slice:Expr) (pins:List (Addr×Obj)) (s:Sh) (σ:St) (H:Hp) (x y:V) (v u:Value) (Q:VK),Inv X pins σ H s->RelV x v->RelV y u->r x y H Q ->
  subscripted slice false v u=operate [v,u] (getItem v u)->wpAny (model X.prog X.w) X.A (subscriptTail value slice v u) (EP X pins σ Q) X.xe s
def Pn (X:Cx)(id:String)(r:V->List V->Hp->VK->Prop):Prop:=
 ∀(pins:List (Addr×Obj)) (s:Sh) (σ:St) (H:Hp) (x:V) (xs:List V) (v:Value) (us:List Value) (Q:VK),Inv X pins σ H s->RelV x v->Vals xs us->r x xs H Q ->
  wpAny (model X.prog X.w) X.A (call (.builtin id) (v::us)) (EP X pins σ Q) X.xe s
section
variable {X:Cx}{a b:Expr}{ta tb:TE}{pos:Pos}
theorem uC.or {r r':R2}(h:uC X r)(h':uC X r'):uC X (λx y H Q=>r x y H Q\/r' x y H Q):=by
 intro value slice pins s σ H x y v u Q I rx ry q hs;rcases q with q | q
 .exact h value slice pins s σ H x y v u Q I rx ry q hs
 .exact h' value slice pins s σ H x y v u Q I rx ry q hs
theorem Nh {r:R2}(hr:uC X r)(ha:PE X a ta)(hb:PE X b tb)(hs:Ie b):PE X (.Subscript a b pos) (BH r ta tb):=by intro pins s σ H Q I h;exact Subscript_ (FP ha hb I h λv u s2 x y H2 I2 rx ry q=>hr a b pins s2 σ H2 x y v u Q I2 rx ry q (hs _ _))
def MG (K:Fg):R2:=λx y H Q=>∃p xs i v,x = .ref p/\y = .int i/\cB K H p xs/\yV xs i=some v/\Q v H
def JV (K:Fg):R2:=λx y H Q=>∃p xs i v,x = .ref p/\y = .int i/\cz K H p xs/\yV xs i=some v/\Q v H
theorem IW:uC X (MG X.K):=by
 intro value slice pins s σ H x y v u Q I rx ry h hs;obtain⟨p,xs,i,z,rfl,rfl,hq,he,q⟩:=h;cases rx;obtain⟨t,rfl⟩:=ry;obtain⟨ai,r,pl,hz⟩:=I.list hq;obtain⟨j,h1,h2,h3,h4,h5⟩:=yI he;obtain⟨w,ew,rw'⟩:=r.get h2;have hl:=r.length;have hn:=nN;have fin:EP X pins σ Q w s:=⟨z,H,I,rw',q⟩
 by_cases h0:0<=i
 .have hj:i.toNat=j:=by rw[seqIndex_of h0 h5] at h1;exact Option.some.inj h1
  exact item_listR pl.isList h0 (by omega) (by rw[hj];simpa using ew) fin hs
 .have hj:(i+(ai.toArray.size:Int)).toNat=j:=by rw[seqIndex_neg (by omega) h4] at h1;rw[List.size_toArray,<-hl];exact Option.some.inj h1
  exact subscriptTail_builtinR (x:=w) pl.isList.typeIs slot_list_getitem.lookup
   (wpAny_getItem_list_neg (Q:=λr s'=>r=w/\EP X pins σ Q r s') pl.isList (by omega) (by rw[List.size_toArray]<;>omega) (by omega) (by rw[hj];simpa using ew) ⟨rfl,fin⟩) hs
theorem J9:uC X (JV X.K):=by
 intro value slice pins s σ H x y v u Q I rx ry h hs;obtain⟨p,xs,i,z,rfl,rfl,hq,he,q⟩:=h;cases rx;obtain⟨t,rfl⟩:=ry;obtain⟨ai,r,pl,hz⟩:=I.tuple hq;obtain⟨j,h1,h2,h3,h4,h5⟩:=yI he;obtain⟨w,ew,rw'⟩:=r.get h2;have hl:=r.length;have hn:=nN;have fin:EP X pins σ Q w s:=⟨z,H,I,rw',q⟩;exact subscriptTail_builtinR (x:=w) pl.typeIs slot_tuple_getitem.lookup
  (getItem_tuple (j:=j) (Q:=λr s'=>r=w/\EP X pins σ Q r s') pl (by omega) (by omega) (by rw[List.size_toArray,<-hl];exact h1) (by simpa using ew) ⟨rfl,fin⟩) hs
theorem zT (ai:List Value)(n j:Nat)(u:Value):Obj.mapSeq (·.setIfInBounds j u) { cls:=.type "list",data:=.seq ai.toArray n }={ cls:=.type "list",data:=.seq (ai.set j u).toArray n }:=by simp[Obj.mapSeq]
theorem Inv.lst {pins:List (Addr×Obj)}{σ:St}{H:Hp}{s:Sh}{p:Addr}{xs:List V}(I:Inv X pins σ H s)(h:H p=some (.lst xs)):
 ∃(ai:List Value) (n:Nat),Vals xs ai/\s.heap.get? p=some { cls:=.type "list",data:=.seq ai.toArray n }/\xs.length<=sizeLine:=by
 obtain⟨z,ai,n,r,e⟩:=I.aw p _ h;exact⟨ai,n,r,e,z⟩
theorem Inv.K3 {pins:List (Addr×Obj)}{σ:St}{H:Hp}{s:Sh}{p:Addr}{xs ys:List V}{ai its':List Value}{n n':Nat}{f:Obj->Obj}(I:Inv X pins σ H s)(h:H p=some (.lst xs))
 (ho:s.heap.get? p=some { cls:=.type "list",data:=.seq ai.toArray n }) (hf:f { cls:=.type "list",data:=.seq ai.toArray n }={ cls:=.type "list",data:=.seq its'.toArray n' }) (r:Vals ys its') (hz:ys.length<=sizeLine) (t:Nat):
 Inv X pins σ (upd H p (.lst ys)) { s with heap:=s.heap.update p f,toks:=t }:=by
 have e:(s.heap.update p f).get? p=some { cls:=.type "list",data:=.seq its'.toArray n' }:=by rw[Heap.get?_update_self f ho (by rw[hf]<;>rfl),hf]
 refine I.write (x:=p) (e:=p) (by rw[h];trivial) (.inl rfl) (λb u hb q=>(Heap.get?_update_other _ _ (Ne.symm hb)).trans q) ⟨_,e⟩ ?_;exact⟨hz,its',n',r,e⟩
def NR:V->V->V->Hp->(Hp->Prop)->Prop:=λo i v H Q=>∃p xs k j,o = .ref p/\i = .int k/\H p=some (.lst xs)/\za xs.length k=some j/\Q (upd H p (.lst (xs.set j v)))
theorem set_list:ng X NR:=by
 intro pins s σ H o i v ov iv u Q I ro ri rv h;obtain⟨p,xs,k,j,rfl,rfl,hp,hj,q⟩:=h;cases ro;obtain⟨t,rfl⟩:=ri;obtain⟨ai,n,r,ho,hz⟩:=I.lst hp;obtain⟨h1,h2,h3,h4⟩:=yu hj;have hl:=r.length;have hn:=nN;have I':Inv X pins σ (upd H p (.lst (xs.set j v))) { s with heap:=s.heap.update p (Obj.mapSeq (·.setIfInBounds j u)) }:=
  I.K3 hp ho (zT ai n j u) (r.set rv j) (by rw[List.length_set];exact hz) s.toks
 by_cases h0:0<=k
 .have hk:k.toNat=j:=by rw[seqIndex_of h0 h4] at h1;exact Option.some.inj h1
  exact W.ki_setAt ho h0 (by omega) (by rw[List.size_toArray,<-hl];exact h4) (by rw[hk];exact⟨_,I',q⟩)
 .have hk:(k+(ai.toArray.size:Int)).toNat=j:=by rw[seqIndex_neg (by omega) h3] at h1;rw[List.size_toArray,<-hl];exact Option.some.inj h1
  exact W.ki_setBack ho (by omega) (by rw[List.size_toArray,<-hl];exact h3) (by omega) (by rw[hk];exact⟨_,I',q⟩)
theorem wX (lo hi:Option Int)(n:Nat):(sliceBounds lo hi none n).1=((HT.aX n 0 lo:Nat):Int)/\(sliceBounds lo hi none n).2.1=((HT.aX n n hi:Nat):Int)/\(sliceBounds lo hi none n).2.2=1:=by
 refine⟨?_,?_,rfl⟩
 .cases lo with
  | none=>simp[sliceBounds,HT.aX]
  | some i=>
   simp only[sliceBounds,HT.aX,Option.getD_none,show (1:Int) > 0 by decide,if_true]
   by_cases h:i<0
   .simp only[h,if_true]<;>omega
   .simp only[h,if_false]<;>omega
 .cases hi with
  | none=>simp[sliceBounds,HT.aX]
  | some i=>
   simp only[sliceBounds,HT.aX,Option.getD_none,show (1:Int) > 0 by decide,if_true]
   by_cases h:i<0
   .simp only[h,if_true]<;>omega
   .simp only[h,if_false]<;>omega
theorem uN (ai:List Value)(lo hi:Option Int):slicePick ai.toArray lo hi none=((ai.drop (HT.aX ai.length 0 lo)).take (HT.aX ai.length ai.length hi-HT.aX ai.length 0 lo)).toArray:=by obtain⟨h1,h2,h3⟩:=wX lo hi ai.toArray.size;unfold slicePick;rw[h1,h2,h3];simp only[sliceRange_one,pick_run,List.size_toArray]<;>rfl
def O5 (K:Fg):V->Option Int->Option Int->Hp->VK->Prop:=λx lo hi H Q=>∃a xs,x = .ref a/\cB K H a xs/\∀p,H p=none->Q (.ref p) (upd H p (.lst (mi xs lo hi)))
theorem Ja:uA X (O5 X.K):=by
 intro pins s σ H x v vl vu lo hi sl Q I rx hs pl pu h;obtain⟨a,xs,rfl,hx,q⟩:=h;cases rx;obtain⟨ai,r,ht,hz⟩:=I.list hx;have hlen:=r.length;refine⟨"list",_,slot_list_getitem.lookup,ht.isList.typeIs,?_⟩;refine wpAny_getItem_list_slice ht.isList hs pl pu .none (by simp) ?_ (by rw[List.size_toArray]<;>omega)
 rw[uN,<-hlen];refine⟨.ref s.heap.objs.size,_,I.laid (t':=s.toks) (o:=.lst (mi xs lo hi)) (λb ob q=>Heap.get?_push_of_some _ q) (Nat.le_refl _) ?_,rfl,q _ (I.aw.fresh (Nat.le_refl _))⟩;exact⟨Nat.le_trans (pe xs lo hi) hz,_,0,(r.drop (HT.aX xs.length 0 lo)).take (HT.aX xs.length xs.length hi-HT.aX xs.length 0 lo),Heap.get?_push_size _ rfl⟩
def lM:V->Bool
 | .aj=>true
 | .bl _=>true
 | .int _=>true
 | .str _=>true
 | _=>false
def Ci:V->V->Bool
 | .aj,.aj=>true
 | .bl a,.bl b=>a==b
 | .bl a,.int b=>(if a then 1 else 0)==b
 | .int a,.bl b=>a==(if b then 1 else 0)
 | .int a,.int b=>a==b
 | .str a,.str b=>a==b
 | _,_=>false
theorem BC {A:Around}{s:Sh}{y x:V}{u v:Value}(ry:RelV y u)(rx:RelV x v)(fy:lM y=true)(fx:lM x=true):SeqAt.EqAt A s u v (Ci y x):=by
 cases y with
 | aj=>
  cases ry;cases x with
  | aj=>cases rx;exact SeqAt.EqAt.same _
  | bl b=>cases rx;exact SeqAt.EqAt.none_bool b
  | int b=>obtain⟨t,rfl⟩:=rx;exact SeqAt.EqAt.none_int b t
  | str b=>obtain⟨t,rfl⟩:=rx;exact SeqAt.EqAt.none_str b t
  | _=>exact absurd (show false=true from fx) Bool.false_ne_true
 | bl a=>
  cases ry;cases x with
  | aj=>cases rx;exact SeqAt.EqAt.bool_none a
  | bl b=>cases rx;exact SeqAt.EqAt.bool_bool a b
  | int b=>obtain⟨t,rfl⟩:=rx;exact SeqAt.EqAt.bool_int a b t
  | str b=>obtain⟨t,rfl⟩:=rx;exact SeqAt.EqAt.bool_str a b t
  | _=>exact absurd (show false=true from fx) Bool.false_ne_true
 | int a=>
  obtain⟨t',rfl⟩:=ry;cases x with
  | aj=>cases rx;exact SeqAt.EqAt.int_none a t'
  | bl b=>cases rx;exact SeqAt.EqAt.int_bool a t' b
  | int b=>obtain⟨t,rfl⟩:=rx;exact SeqAt.EqAt.int_int a t' b t
  | str b=>obtain⟨t,rfl⟩:=rx;exact SeqAt.EqAt.int_str a t' b t
  | _=>exact absurd (show false=true from fx) Bool.false_ne_true
 | str a=>
  obtain⟨t',rfl⟩:=ry;cases x with
  | aj=>cases rx;exact SeqAt.EqAt.str_none a t'
  | bl b=>cases rx;exact SeqAt.EqAt.str_bool a t' b
  | int b=>obtain⟨t,rfl⟩:=rx;exact SeqAt.EqAt.str_int a t' b t
  | str b=>obtain⟨t,rfl⟩:=rx;exact SeqAt.EqAt.str_str a t' b t
  | _=>exact absurd (show false=true from fx) Bool.false_ne_true
 | _=>exact absurd (show false=true from fy) Bool.false_ne_true
theorem vY:bP X (compareOp .NotIn) (λx y H Q=>∃i j,x = .str i/\y = .str j/\Q (.bl (!(!(Builtin.Str.occurrences j i 0 j.length 1).isEmpty))) H):=by intro pins s σ H x y v u Q I rx ry h;obtain⟨i,j,rfl,rfl,q⟩:=h;obtain⟨t,rfl⟩:=rx;obtain⟨t',rfl⟩:=ry;exact notIn_str ⟨.bl _,H,I,rfl,q⟩
theorem dz.or {f:Value}{r r':List V->Hp->VK->Prop}(h:dz X f r)(h':dz X f r'):dz X f (λxs H Q=>r xs H Q\/r' xs H Q):=by
 intro pins s σ H xs us Q I rs q;rcases q with q | q
 .exact h pins s σ H xs us Q I rs q
 .exact h' pins s σ H xs us Q I rs q
theorem wz:dz X (.type "list") (λxs H Q=>∃p ys,xs=[.ref p]/\(cB X.K H p ys\/cz X.K H p ys)/\∀l,H l=none->Q (.ref l) (upd H l (.lst ys))):=by
 intro pins s σ H xs us Q I r h;obtain⟨p,ys,rfl,hq,q⟩:=h;obtain⟨u,rfl,rx⟩:=vals1 r;cases rx;have fin:∀(ai:List Value),Vals ys ai->ys.length<=sizeLine->∀(h':Heap) (c':Nat),(∀b o',s.heap.get? b=some o'->h'.get? b=some o') ->
  h'.get? s.heap.objs.size=some { cls:=.type "list",dict:=none,data:=.seq ai.toArray c',slots:=#[] }->EP X pins σ Q (.ref s.heap.objs.size) { s with heap:=h' }:=λai r' hz h' c' kp e=>
  ⟨.ref s.heap.objs.size,_,I.laid (t':=s.toks) kp (Nat.le_refl _) (show aV X.prog X.w _ h' _ (.lst ys) from ⟨hz,ai,c',r',e⟩),rfl,q _ (I.aw.fresh (Nat.le_refl _))⟩
 rcases hq with hq | hq
 .obtain⟨ai,r',pl,hz⟩:=I.list hq;have hlen:=r'.length;obtain⟨o,ho,hc,n,hd⟩:=pl.isList;exact call_list_seq p (.inl rfl) ho hc hd (λh' c' kp e=>fin ai r' hz h' c' kp e) (by simp only[List.size_toArray]<;>omega)
 .obtain⟨ai,r',pl,hz⟩:=I.tuple hq;have hlen:=r'.length;obtain⟨o,ho,hc,n,hd⟩:=pl;exact call_list_seq p (.inr rfl) ho hc hd (λh' c' kp e=>fin ai r' hz h' c' kp e) (by simp only[List.size_toArray]<;>omega)
theorem mx:dz X (.type "tuple") (λxs H Q=>∃p ys,xs=[.ref p]/\((cB X.K H p ys/\∀l,H l=none->Q (.ref l) (upd H l (.tup ys)))\/(cz X.K H p ys/\Q (.ref p) H))):=by
 intro pins s σ H xs us Q I r h;obtain⟨p,ys,rfl,h⟩:=h;obtain⟨u,rfl,rx⟩:=vals1 r;cases rx;rcases h with⟨hq,q⟩|⟨hq,q⟩
 .obtain⟨ai,r',pl,hz⟩:=I.list hq;have hlen:=r'.length;refine call_tuple_list pl.isList (λh' kp=>?_) (by simp only[List.size_toArray]<;>omega)
  have I1:Inv X pins σ H { s with heap:=h' }:=I.kept (t':=s.toks) kp;have I2:Inv X pins σ (upd H h'.objs.size (.tup ys)) { s with heap:=h'.push { cls:=.type "tuple",data:=.seq ai.toArray } }:=
   I1.laid (t':=s.toks) (λb o e=>Heap.get?_push_of_some _ e) (Nat.le_refl _) (show aV X.prog X.w _ _ _ (.tup ys) from ⟨hz,ai,r',IsTup.new _ _⟩)
  exact⟨.ref h'.objs.size,_,I2,rfl,q _ (I1.aw.fresh (Nat.le_refl _))⟩
 .obtain⟨ai,r',pl,hz⟩:=I.tuple hq;exact call_tuple_same pl ⟨.ref p,H,I,rfl,q⟩
def Om (K:Fg)(T:String)(x:V)(H:Hp):Prop:=match x with
 | .str _=>T = "str"
 | .int _=>T = "int"
 | .ref p=>(T = "list"/\∃xs,cB K H p xs)\/(T = "tuple"/\∃o,K.lookup p=some o/\o.cls = .type "tuple"/\o.dict=none) \/
  (T = "dict"/\((∃af,H p=some (.dK af))\/∃af,H p=some (.dT af)))\/(T = "set"/\∃S n,H p=some (.set S n))
 | _=>False
theorem KC {pins:List (Addr×Obj)}{σ:St}{H:Hp}{s:Sh}{T:String}{x:V}{v:Value}(I:Inv X pins σ H s)(r:RelV x v)(ty:Om X.K T x H):
 s.TypeIs v T/\∀a,v = .ref a->∃ob,s.heap.get? a=some ob/\ob.dict=none:=by
 cases x with
 | str z=>obtain⟨t,rfl⟩:=r;cases (show T = "str" from ty);exact⟨typeIs_str s z t,λ_ e=>nomatch e⟩
 | int i=>obtain⟨t,rfl⟩:=r;cases (show T = "int" from ty);exact⟨typeIs_int s i t,λ_ e=>nomatch e⟩
 | ref p=>
  cases r;rcases ty with⟨rfl,xs,hq⟩|⟨rfl,o,hk,hc,hd⟩|⟨rfl,hk⟩|⟨rfl,S,n,hk⟩
  .obtain⟨ai,_,pl,_⟩:=I.list hq;refine⟨pl.isList.typeIs,λa e=>?_⟩;cases e;obtain⟨o,n,e,c,hd,_⟩:=pl;exact⟨o,e,hd⟩
  .refine⟨⟨o,I.eh p o hk,hc⟩,λa e=>?_⟩;cases e;exact⟨o,I.eh _ o hk,hd⟩
  .have z:∃o,s.heap.get? p=some o/\o.ExactDict:=by
    rcases hk with⟨af,hk⟩|⟨af,hk⟩
    .obtain⟨_,_,_,_,o,_,_,e,ex,_⟩:=I.aw p _ hk;exact⟨o,e,ex⟩
    .obtain⟨_,_,_,_,o,_,_,e,ex,_⟩:=I.aw p _ hk;exact⟨o,e,ex⟩
   obtain⟨o,e,ex⟩:=z;refine⟨⟨o,e,ex.1⟩,λa e2=>?_⟩;cases e2;exact⟨o,e,ex.2.1⟩
  .obtain⟨o,_,_,_,e,ex,_⟩:=I.aw p _ hk;refine⟨⟨o,e,ex.1⟩,λa e2=>?_⟩;cases e2;exact⟨o,e,ex.2.1⟩
 | _=>exact False.elim ty
def Pk (K:Fg)(T:String)(r:V->List V->Hp->VK->Prop)(to:TE)(t:TA):TE:=λσ H Q=>to σ H λx H1=>Om K T x H1/\t σ H1 λxs H2=>r x xs H2 Q
variable {o e:Expr}{es:List Expr}{to:TE}{t:TA}{name:Str}{apos dU:Pos}{T id:String}{r:V->List V->Hp->VK->Prop}
theorem rA (pa:PlainAttrs T)(slot:Slot T name id)(hty:typeOf (.builtin id)=pure (.type "method_descriptor"))(hm:Pn X id r)(ho:PE X o to)(ha:PA X (e::es) t)
 (Ob:attributeBase o name X.env (eval o X.env)=eval o X.env:=by rfl)
 (hfew:((backTo dU (starEach (e::es) X.env)).all (λx=>!x.1)&&(backToKw dU (keywordEach [] X.env)).all (λx=>x.1.isSome)
   && decide ((e::es).length+([]:List Keyword).length+(if ([]:List Keyword).isEmpty then 0 else 1)<30))=true:=by rfl)
 (Oc:(apos.endLine==dU.line)=true:=by rfl) (hs:starEach (e::es) X.env=(false,eval e X.env)::starEach es X.env:=by rfl) (MX:(backTo dU (starEach es X.env)).any (·.1)=false:=by rfl):
 PE X (.Call (.Attribute o name apos) (e::es) [] dU) (Pk X.K T r to t):=by
 intro pins s σ H Q I h;refine wpAny_Call_method_late Ob hfew Oc rfl (aK (ho pins s σ H _ I h) λv s1 ⟨x,H1,I1,r1,ty,q1⟩=>?_);obtain⟨h1,h2⟩:=KC I1 r1 ty;refine⟨T,id,pa,slot,hty,h1,h2,?_⟩;have hA:=ha dU pins s1 σ H1 _ I1 q1;rw[hs] at hA ⊢;refine Calls.callWith_builtin (by show (false||(backTo dU (starEach es X.env)).any (·.1))=false;rw[MX]<;>rfl) (Calls.evalArgs_plain ?_)
 exact aK hA λus s2 ⟨vs,H2,I2,r2,q2⟩=>hm pins s2 σ H2 x vs v us Q I2 r1 r2 q2
end
def xp (X:Cx)(id:String)(r:V->List V->Hp->VK->Prop):Prop:=
 ∀(pins:List (Addr×Obj)) (s:Sh) (σ:St) (H:Hp) (x:V) (xs:List V) (v:Value) (us:List Value) (Q:VK),Inv X pins σ H s->RelV x v->Vals xs us->r x xs H Q ->
  wpAny (model X.prog X.w) X.A (call (.builtin id) (v::us)) (EP X pins σ Q) X.xe s
theorem Vals.one:∀{x:V} {us:List Value},Vals [x] us->∃u,us=[u]/\RelV x u
 | _,_,.cons r .nil=>⟨_,rfl,r⟩
theorem Vals.two:∀{x y:V} {us:List Value},Vals [x,y] us->∃u v,us=[u,v]/\RelV x u/\RelV y v
 | _,_,_,.cons r (.cons q .nil)=>⟨_,_,rfl,r,q⟩
theorem Vals.rep {xs:List V}{us:List Value}(h:Vals xs us):∀k:Nat,Vals (List.replicate k xs).flatten (List.replicate k us).flatten
 | 0=>.nil
 | k+1=>by rw[List.replicate_succ,List.replicate_succ,List.flatten_cons,List.flatten_cons];exact Vals.append h (Vals.rep h k)
theorem foldl_rep (ai:List Value):∀(k:Nat) (acc:List Value),
 List.foldl (λx1 x2=>x1++x2) acc.toArray (List.replicate k ai.toArray)=(acc++(List.replicate k ai).flatten).toArray
 | 0,acc=>by simp
 | k+1,acc=>by
  have e:acc.toArray++ai.toArray=(acc++ai).toArray:=by simp
  have e2:(acc++ai)++(List.replicate k ai).flatten=acc++(List.replicate (k+1) ai).flatten:=by rw[List.replicate_succ,List.flatten_cons,List.append_assoc]
  rw[<-e2,<-foldl_rep ai k (acc++ai),<-e,List.replicate_succ,List.foldl_cons]
section
variable {X:Cx}{pins:List (Addr×Obj)}{σ:St}{H:Hp}{s:Sh}{l b:Addr}{xs ys zs:List V}
theorem Inv.xc {ai its':List Value}{n:Nat}{f:Array Value->Array Value}{t':Nat}(I:Inv X pins σ H s)(hH:H l=some (.lst xs))
 (e:s.heap.get? l=some { cls:=.type "list",data:=.seq ai.toArray n }) (hf:f ai.toArray=its'.toArray) (hv:Vals ys its') (hz:ys.length<=sizeLine):
 Inv X pins σ (upd H l (.lst ys)) { s with heap:=s.heap.update l (Obj.mapSeq f),toks:=t' }:=by
 have q:=PySem.IsL.update e f;rw[hf] at q;refine I.write (x:=l) (e:=l) (by rw[hH];exact trivial) (.inl rfl) (λb' u hb hu=>(Heap.get?_update_other s.heap (Obj.mapSeq f) (Ne.symm hb)).trans hu) ⟨_,q⟩ ?_;exact⟨hz,its',_,hv,q⟩
theorem Inv.Kg {ai:List Value}{t':Nat}(I:Inv X pins σ H s)(hv:Vals ys ai)(hz:ys.length<=sizeLine):
 Inv X pins σ (upd H s.heap.objs.size (.lst ys)) { s with heap:=s.heap.push { cls:=.type "list",data:=.seq ai.toArray },toks:=t' }:=
 I.laid (λ_ _ q=>Heap.get?_push_of_some _ q) (Nat.le_refl _) ⟨hz,ai,0,hv,Heap.get?_push_size _ rfl⟩
theorem Inv.fresh (I:Inv X pins σ H s):H s.heap.objs.size=none:=I.aw.fresh (Nat.le_refl _)
theorem Inv.kK (I:Inv X pins σ H s)(hH:H l=some (.lst xs)):xs.length<=sizeLine/\∃(ai:List Value) (n:Nat),Vals xs ai/\xs.length=ai.length/\s.heap.get? l=some { cls:=.type "list",data:=.seq ai.toArray n }:=by obtain⟨z,ai,n,r,e⟩:=I.aw l _ hH;exact⟨z,ai,n,r,r.length,e⟩
theorem qr {n:Nat}(h:n<=sizeLine):Builtin.List.listTooLong n=false:=by unfold Builtin.List.listTooLong;exact decide_eq_false (by omega)
end
section
variable {X:Cx}
def HK:V->List V->Hp->VK->Prop:=λx vs H Q=>∃l xs y,x = .ref l/\vs=[y]/\H l=some (.lst xs)/\xs.length<sizeLine/\Q .aj (upd H l (.lst (xs++[y])))
theorem Bz:xp X "list.append" HK:=by intro pins s σ H x vs v us Q I rx rv h;obtain⟨l,xs,y,rfl,rfl,hH,hz,q⟩:=h;cases rx;obtain⟨u,rfl,ru⟩:=rv.one;obtain⟨z,ai,n,r,hl,e⟩:=I.kK hH;refine call_meets F.slot_list_append ⟨_,e,rfl⟩ F.entry_list_append (F.args_list_append_2 _ _) (PySem.list_append l ai.toArray n u (by rw[List.size_toArray];omega)) ⟨e,?_⟩;refine⟨.aj,_,I.xc (its':=ai++[u]) hH e (by simp) (r.append (.cons ru .nil)) ?_,rfl,q⟩;rw[List.length_append,List.length_singleton];omega
def IX:V->List V->Hp->VK->Prop:=λx vs H Q=>∃l b xs zs,x = .ref l/\vs=[.ref b]/\H l=some (.lst xs)/\H b=some (.lst zs)/\xs.length+zs.length<=sizeLine/\Q .aj (upd H l (.lst (xs++zs)))
theorem CH:xp X "list.extend" IX:=by
 intro pins s σ H x vs v us Q I rx rv h;obtain⟨l,b,xs,zs,rfl,rfl,hH,hB,hz,q⟩:=h;cases rx;obtain⟨u,rfl,ru⟩:=rv.one;cases ru;obtain⟨z,ai,n,r,hl,e⟩:=I.kK hH;obtain⟨z2,dH,n2,r2,xG,e2⟩:=I.kK hB;have hsz:ai.toArray.size+dH.toArray.size<=sizeLine:=by rw[List.size_toArray,List.size_toArray];omega
 have sj:¬(!ai.toArray.isEmpty&&Builtin.List.listTooLong (ai.toArray.size+dH.toArray.size))=true:=by rw[qr hsz,Bool.and_false];exact Bool.false_ne_true
 refine call_meets F.slot_list_extend ⟨_,e,rfl⟩ F.entry_list_extend (F.args_list_extend_2 _ _)
  (AutoSeq1.list_extend_list_list_0 l ai.toArray n b dH.toArray n2 sj (by rw[List.size_toArray];omega) (by omega)) ⟨e,e2,?_⟩
 refine⟨.aj,_,I.xc (its':=ai++dH) hH e (by simp) (r.append r2) ?_,rfl,q⟩;rw[List.length_append];omega
def J3:R2:=λx y H Q=>∃l b xs zs,x = .ref l/\y = .ref b/\H l=some (.lst xs)/\H b=some (.lst zs)/\xs.length+zs.length<=sizeLine/\∀p,H p=none->Q (.ref p) (upd H p (.lst (xs++zs)))
theorem LM:bP X (binaryOp .Add) J3:=by
 intro pins s σ H x y v u Q I rx ry h;obtain⟨l,b,xs,zs,rfl,rfl,hH,hB,hz,q⟩:=h;cases rx;cases ry;obtain⟨z,ai,n,r,hl,e⟩:=I.kK hH;obtain⟨z2,dH,n2,r2,xG,e2⟩:=I.kK hB;refine PySem.P.add_list e e2 ?_ (by rw[List.size_toArray,List.size_toArray];omega);have ea:ai.toArray++dH.toArray=(ai++dH).toArray:=by simp
 rw[ea];exact⟨.ref _,_,I.Kg (t':=s.toks) (r.append r2) (by rw[List.length_append];omega),rfl,q _ I.fresh⟩
def Lu:R2:=λx y H Q=>∃l k xs,x = .ref l/\y = .int k/\H l=some (.lst xs)/\-(2 ^ 63)<=k/\k<2 ^ 63/\xs.length*k.toNat<=sizeLine /\
 ∀p,H p=none->Q (.ref p) (upd H p (.lst (List.replicate k.toNat xs).flatten))
theorem len_rep {α:Type}(xs:List α)(k:Nat):(List.replicate k xs).flatten.length=k*xs.length:=by
 induction k with
 | zero=>simp
 | succ k ih=>rw[List.replicate_succ,List.flatten_cons,List.length_append,ih,Nat.succ_mul,Nat.add_comm]
theorem KW:bP X (binaryOp .Mult) Lu:=by
 intro pins s σ H x y v u Q I rx ry h;obtain⟨l,k,xs,rfl,rfl,hH,h1,h2,hz,q⟩:=h;cases rx;obtain⟨t,rfl⟩:=ry;obtain⟨z,ai,n,r,hl,e⟩:=I.kK hH;have hlen:ai.toArray.size*k.toNat<=sizeLine:=by rw[List.size_toArray,<-hl];exact hz
 have hcap:¬ai.toArray.size*k.toNat > (2 ^ 63-1) / 8:=by
  have:(sizeLine:Nat)<=(2 ^ 63-1) / 8:=by decide
  omega
 have jm:¬(!Builtin.List.listFitsIndex k)=true:=by rw[fitsIndex_both h1 h2];exact Bool.false_ne_true
 have sj:¬Builtin.List.listTooLong (ai.toArray.size*k.toNat)=true:=by rw[qr hlen];exact Bool.false_ne_true
 have hnew:List.foldl (λx1 x2=>x1++x2) #[] (List.replicate (if ai.toArray.isEmpty=true then 0 else k.toNat) ai.toArray)=(List.replicate k.toNat ai).flatten.toArray:=by
  have f0:∀m:Nat,List.foldl (λx1 x2=>x1++x2) #[] (List.replicate m ai.toArray)=(List.replicate m ai).flatten.toArray:=λm=>by have:=foldl_rep ai m [];rw[List.nil_append] at this;exact this
  rw[f0];cases ai with
  | nil=>simp
  | cons a r'=>rw[if_neg (by simp)]
 refine wpAny_binaryOp_repeat_ref (T:="list") (U:="int") (by decide) ⟨_,e,rfl⟩ (λs'=>typeIs_int s' k t) noFill_list_mul F.fills_int_mul F.slot_int_rmul repeat_list F.slot_int_index.lookup
  (call_meets F.slot_int_rmul (typeIs_int s k t) F.entry_int_rmul (F.args_int_rmul_2 _ _) (int___rmul___int_list k t l ai.toArray n)
    ⟨e,rfl,⟨_,e,rfl⟩,call_meets F.slot_list_mul ⟨_,e,rfl⟩ F.entry_list_mul (F.args_list_mul_2 _ _) (AutoListH.list___mul___list_int_3 l ai.toArray n k t jm hcap sj) ⟨e,?_⟩⟩)
 rw[hnew];exact⟨.ref _,_,I.Kg (t':=s.toks) (r.rep k.toNat) (by rw[len_rep,Nat.mul_comm];exact hz),rfl,q _ I.fresh⟩
end
section
variable {prog:Program}{w:World}{A:Around}{E:Value->Sh->Prop}{s:Sh}
set_option maxRecDepth 100000 in
end
section
variable {X:Cx}
end
section
variable {κ:Type}[DecidableEq κ]
def cX (af:List (κ×V))(k:κ):Option V:=(af.find? λkv=>decide (kv.1=k)).map (·.2)
def putK (af:List (κ×V))(k:κ)(v:V):List (κ×V):=
 if (af.any λkv=>decide (kv.1=k))=true then af.map (λkv=>if kv.1=k then (kv.1,v) else kv) else af++[(k,v)]
def dA (af:List (κ×V))(k:κ):List (κ×V):=af.filter λkv=>decide (kv.1≠k)
theorem jO {p:κ×V}{r:List (κ×V)}{k:κ}(e:p.1=k):cX (p::r) k=some p.2:=by simp[cX,List.find?_cons,e]
theorem jY {p:κ×V}{r:List (κ×V)}{k:κ}(e:¬p.1=k):cX (p::r) k=cX r k:=by simp[cX,List.find?_cons,e]
theorem qc (k:κ):∀af:List (κ×V),(af.any λkv=>decide (kv.1=k))=(cX af k).isSome
 | []=>rfl
 | p::r=>by
  rw[List.any_cons]
  by_cases e:p.1=k
  .simp only[jO e,decide_eq_true e,Bool.true_or,Option.isSome_some]
  .rw[jY e,decide_eq_false e,Bool.false_or];exact qc k r
theorem oZ (af:List (κ×V))(k:κ)(v:V):(putK af k v).length<=af.length+1:=by
 unfold putK;split
 .rw[List.length_map];omega
 .rw[List.length_append,List.length_cons,List.length_nil];omega
theorem fD.fO {o:Option V}{u:Option Value}(r:fD o u):o.isSome=u.isSome:=by
 cases o with
 | none=>cases u with
  | none=>rfl
  | some _=>exact(show False from r).elim
 | some _=>cases u with
  | none=>exact(show False from r).elim
  | some _=>rfl
theorem KV.val {af:List (κ×V)}{vs:List (κ×Value)}(r:KV af vs)(k:κ):fD (cX af k) (valueAt vs k):=by
 unfold KV at r
 induction r with
 | nil=>exact True.intro
 | @cons p q ps qs h t ih=>
  obtain⟨h1,h2⟩:=h
  by_cases e:p.1=k
  .have e':q.1=k:=h1.symm.trans e;have b:valueAt (q::qs) k=some q.2:=by simp[valueAt,List.find?_cons,e']
   rw[jO e,b];exact h2
  .have e':¬q.1=k:=λz=>e (h1.trans z);have b:valueAt (q::qs) k=valueAt qs k:=by simp[valueAt,List.find?_cons,e']
   rw[jY e,b];exact ih
theorem KV.any {af:List (κ×V)}{vs:List (κ×Value)}(r:KV af vs)(k:κ):(af.any λkv=>decide (kv.1=k))=vs.any λkv=>decide (kv.1=k):=by
 unfold KV at r
 induction r with
 | nil=>rfl
 | cons h t ih=>rw[List.any_cons,List.any_cons,ih,h.1]
theorem KV.wZ {af:List (κ×V)}{vs:List (κ×Value)}(r:KV af vs)(k:κ){y:V}{u:Value}(ry:RelV y u):
 KV (af.map λkv=>if kv.1=k then (kv.1,y) else kv) (vs.map λkv=>if kv.1=k then (kv.1,u) else kv):=by
 unfold KV at r ⊢
 induction r with
 | nil=>exact .nil
 | @cons p q ps qs h t ih=>
  rw[List.map_cons,List.map_cons];refine .cons ?_ ih;obtain⟨h1,h2⟩:=h
  by_cases e:p.1=k
  .rw[if_pos e,if_pos (h1.symm.trans e)];exact⟨h1,ry⟩
  .rw[if_neg e,if_neg (λz=>e (h1.trans z))];exact⟨h1,h2⟩
theorem KV.put {af:List (κ×V)}{vs:List (κ×Value)}(r:KV af vs)(k:κ){y:V}{u:Value}(ry:RelV y u):KV (putK af k y) (stored vs k u):=by
 unfold putK stored;rw[r.any k]
 by_cases e:(vs.any λkv=>decide (kv.1=k))=true
 .rw[if_pos e,if_pos e];exact r.wZ k ry
 .rw[if_neg e,if_neg e];exact Paired.snoc r ⟨rfl,ry⟩
theorem KV.drop {af:List (κ×V)}{vs:List (κ×Value)}(r:KV af vs)(k:κ):KV (dA af k) (without vs k):=by
 unfold KV at r ⊢;unfold dA without
 induction r with
 | nil=>exact .nil
 | @cons p q ps qs h t ih=>
  obtain⟨h1,h2⟩:=h;rw[List.filter_cons,List.filter_cons]
  by_cases e:p.1=k
  .have a:¬decide (p.1≠k)=true:=by simp[e]
   have b:¬decide (q.1≠k)=true:=by simp[h1.symm.trans e]
   rw[if_neg a,if_neg b];exact ih
  .have e':¬q.1=k:=λz=>e (h1.trans z);have a:decide (p.1≠k)=true:=by simp[e]
   have b:decide (q.1≠k)=true:=by simp[e']
   rw[if_pos a,if_pos b];exact .cons ⟨h1,h2⟩ ih
theorem KV.length {af:List (κ×V)}{vs:List (κ×Value)}(r:KV af vs):af.length=vs.length:=Paired.length r
theorem wI (af:List (κ×V))(k:κ):(dA af k).length<=af.length:=List.length_filter_le _ _
end
theorem oH {P:Program}{w:World}{k:Key}{u:Value}(r:RelV (kV k) u):(aR P w).is k u=true:=by
 cases k with
 | inl i=>obtain⟨t,e⟩:=(show ∃t,u=Value.int i t from r);subst e;exact yg P w i t
 | inr x=>obtain⟨t,e⟩:=(show ∃t,u=Value.str x t from r);subst e;exact xU P w x t
theorem uo {P:Program}{w:World}:∀{ks:List Key} {us:List Value},Vals (ks.map kV) us->ItemsAre (aR P w) ks us
 | [],_,r=>by rw[List.map_nil] at r;cases r;exact .nil
 | k::ks,_,r=>by
  rw[List.map_cons] at r;cases r with
  | cons h t=>exact .cons (oH h) (uo t)
abbrev KT (H:Hp):List (List Key×V)->List (List Key×Addr×Value)->Prop:=Paired λp q=>p.1=q.1/\H q.2.1=some (.tup (p.1.map kV))/\RelV p.2 q.2.2
theorem KT.val {H:Hp}{af:List (List Key×V)}{xs:List (List Key×Addr×Value)}(r:KT H af xs)(k:List Key):fD (cX af k) ((atKey xs k).map (·.2)):=by
 induction r with
 | nil=>exact True.intro
 | @cons p q ps qs h t ih=>
  obtain⟨h1,_,h2⟩:=h
  by_cases e:p.1=k
  .have e':q.1=k:=h1.symm.trans e;have b:atKey (q::qs) k=some q.2:=by simp[atKey,List.find?_cons,e']
   rw[jO e,b];exact h2
  .have e':¬q.1=k:=λz=>e (h1.trans z);have b:atKey (q::qs) k=atKey qs k:=by simp[atKey,List.find?_cons,e']
   rw[jY e,b];exact ih
theorem KT.wZ {H:Hp}{af:List (List Key×V)}{xs:List (List Key×Addr×Value)}(r:KT H af xs)(k:List Key){y:V}{u:Value}(ry:RelV y u):
 KT H (af.map λkv=>if kv.1=k then (kv.1,y) else kv) (xs.map (putAt k u)):=by
 induction r with
 | nil=>exact .nil
 | @cons p q ps qs h t ih=>
  rw[List.map_cons,List.map_cons];refine .cons ?_ ih;obtain⟨h1,h2,h3⟩:=h;unfold putAt
  by_cases e:p.1=k
  .rw[if_pos e,if_pos (h1.symm.trans e)];exact⟨h1,h2,ry⟩
  .rw[if_neg e,if_neg (λz=>e (h1.trans z))];exact⟨h1,h2,h3⟩
theorem KT.put {H:Hp}{af:List (List Key×V)}{xs:List (List Key×Addr×Value)}(r:KT H af xs)(k:List Key){b:Addr}{y:V}{u:Value}(hb:H b=some (.tup (k.map kV)))(ry:RelV y u):
 KT H (putK af k y) (storedH xs k b u):=by
 have e:(af.any λkv=>decide (kv.1=k))=(atKey xs k).isSome:=by rw[qc,(r.val k).fO,Option.isSome_map]
 unfold putK storedH;rw[e]
 by_cases q:(atKey xs k).isSome=true
 .rw[if_pos q,if_pos q];exact r.wZ k ry
 .rw[if_neg q,if_neg q];exact Paired.snoc r ⟨rfl,hb,ry⟩
theorem KT.keeps {H H':Hp}{af:List (List Key×V)}{xs:List (List Key×Addr×Value)}(r:KT H af xs)(ht:∀b ys,H b=some (.tup ys)->H' b=some (.tup ys)):KT H' af xs:=
 Paired.nS r λ_ _ z=>⟨z.1,ht _ _ z.2.1,z.2.2⟩
section
variable {P:Program}{w:World}{H:Hp}{h:Heap}{a:Addr}
theorem Gk {u:HO}(ok:aL P w H h)(e:Rd H a u):aV P w H h a u:=e.ok ok
theorem lQ {af:List (Key×V)}(ok:aL P w H h)(e:Rd H a (.dK af)):af.length<=sizeLine/\(a==sysModules)=false/\∃vs,KV af vs/\h.DictOf (aR P w) a vs:=
 show aV P w H h a (.dK af) from Gk ok e
theorem GJ {af:List (Key×V)}(ok:aL P w H h)(e:H a=some (.dK af)):af.length<=sizeLine/\(a==sysModules)=false/\∃vs,KV af vs/\h.DictOf (aR P w) a vs:=lQ ok (.inl e)
theorem iU {ks:List Key}(ok:aL P w H h)(e:H a=some (.tup (ks.map kV))):(tupleKind (aR P w)).is h ks a:=by obtain⟨_,ai,r,o,h1,h2,n,h3⟩:=(show aV P w H h a (.tup (ks.map kV)) from ok a _ e);exact⟨o,ai.toArray,n,h1,h2,h3,by simpa using uo r⟩
theorem oy {af:List (List Key×V)}(ok:aL P w H h)(e:Rd H a (.dT af)):af.length<=sizeLine/\(a==sysModules)=false /\
 ∃xs,KT H af xs/\h.DictOfH (tupleKind (aR P w)) a xs:=by
 obtain⟨z,y,xs,r,o,es,ep,h1,h2,h3,h4,h5⟩:=(show aV P w H h a (.dT af) from Gk ok e);refine⟨z,y,xs,r,o,es,ep,h1,h2,h3,h4,λx hx=>?_,h5⟩;have all:∀{l:List (List Key×V)} {m:List (List Key×Addr×Value)},KT H l m->∀x∈m,(tupleKind (aR P w)).is h x.1 x.2.1:=by
  intro l m q
  induction q with
  | nil=>intro x hx;exact nomatch hx
  | @cons p q ps qs hq t ih=>
   intro x hx;rcases List.mem_cons.mp hx with e | hx
   .subst e;exact iU ok (by rw[<-hq.1];exact hq.2.1)
   .exact ih x hx
 exact all r x hx
theorem qY {af:List (List Key×V)}(ok:aL P w H h)(e:H a=some (.dT af)):af.length<=sizeLine/\(a==sysModules)=false /\
 ∃xs,KT H af xs/\h.DictOfH (tupleKind (aR P w)) a xs:=oy ok (.inl e)
end
def iC (H:Hp)(a:Addr)(y:V)(r:Option V):Prop:=
 (∃af k,Rd H a (.dK af)/\y=kV k/\r=cX af k)\/∃af k b,Rd H a (.dT af)/\y = .ref b/\H b=some (.tup (k.map kV))/\r=cX af k
def mZ (H:Hp)(a:Addr)(y v:V)(H':Hp):Prop:=
 (∃af k,H a=some (.dK af)/\y=kV k/\af.length<sizeLine/\H'=upd H a (.dK (putK af k v))) \/
 ∃af k b,H a=some (.dT af)/\y = .ref b/\H b=some (.tup (k.map kV))/\af.length<sizeLine/\H'=upd H a (.dT (putK af k v))
theorem iC.k {H:Hp}{a:Addr}{af:List (Key×V)}{k:Key}(e:H a=some (.dK af)):iC H a (kV k) (cX af k):=.inl ⟨af,k,.inl e,rfl,rfl⟩
theorem iC.t {H:Hp}{a b:Addr}{af:List (List Key×V)}{k:List Key}(e:H a=some (.dT af))(eb:H b=some (.tup (k.map kV))):iC H a (.ref b) (cX af k):=.inr ⟨af,k,b,.inl e,rfl,eb,rfl⟩
theorem mZ.k {H:Hp}{a:Addr}{af:List (Key×V)}{k:Key}{v:V}(e:H a=some (.dK af))(hl:af.length<sizeLine):mZ H a (kV k) v (upd H a (.dK (putK af k v))):=.inl ⟨af,k,e,rfl,hl,rfl⟩
theorem mZ.t {H:Hp}{a b:Addr}{af:List (List Key×V)}{k:List Key}{v:V}(e:H a=some (.dT af))(eb:H b=some (.tup (k.map kV)))(hl:af.length<sizeLine):
 mZ H a (.ref b) v (upd H a (.dT (putK af k v))):=.inr ⟨af,k,b,e,rfl,eb,hl,rfl⟩
section
variable {X:Cx}{pins:List (Addr×Obj)}{σ:St}{H:Hp}{s:Sh}{a:Addr}{y v:V}{u r:Value}{o:Option V}{A:Around}{E:Value->Sh->Prop}
theorem Inv.big (I:Inv X pins σ H s):sysModules<s.heap.objs.size:=by have h:mainGlobals<s.heap.objs.size:=(I.mod.glob.keeps I.bk).lt;exact Nat.lt_trans (by decide) h
theorem Ct {Q:Value->Sh->Prop}(hu:A.units+1<cLine)(I:Inv X pins σ H s)(g:iC H a y (some v))(ry:RelV y u)(h:∀w' s',Inv X pins σ H s'->RelV v w'->Q w' s'):
 wpAny (model X.prog X.w) A (getItem (.ref a) u) Q E s:=by
 rcases g with⟨af,k,e,ey,l⟩|⟨af,k,b,e,ey,eb,l⟩
 .subst ey;obtain⟨z,hd,vs,rel,dd⟩:=lQ I.aw e;obtain⟨w',hw,rw'⟩:=fD.some_of (v:=v) (o:=valueAt vs k) (by rw[l];exact rel.val k);exact wpAny_getItem_of (oH ry) dd.mapOf hw (h w' _ (I.tok _) rw')
 .subst ey;cases (show u=Value.ref b from ry);obtain⟨z,hd,xs,rel,dd⟩:=oy I.aw e;obtain⟨w',hw,rw'⟩:=fD.some_of (v:=v) (o:=(atKey xs k).map (·.2)) (by rw[l];exact rel.val k);obtain⟨p,hp,uG⟩:=Option.map_eq_some_iff.mp hw;refine wpAny_getItem_heap (tupleKind_room_in1 hu) (iU I.aw eb) dd hp ?_;rw[uG];exact h w' _ (I.tok _) rw'
theorem OO {Q:Value->Sh->Prop}(hu:A.units+1<cLine)(I:Inv X pins σ H s)(g:iC H a y o)(ry:RelV y u)(h:∀s',Inv X pins σ H s'->Q (.bool o.isSome) s'):
 wpAny (model X.prog X.w) A (compareOp .In u (.ref a)) Q E s:=by
 rcases g with⟨af,k,e,ey,l⟩|⟨af,k,b,e,ey,eb,l⟩
 .subst ey;obtain⟨z,hd,vs,rel,dd⟩:=lQ I.aw e;refine wpAny_in_of (oH ry) hd dd.mapOf ?_;rw[<-(rel.val k).fO,<-l];exact h _ (I.tok _)
 .subst ey;cases (show u=Value.ref b from ry);obtain⟨z,hd,xs,rel,dd⟩:=oy I.aw e;refine wpAny_in_heap (tupleKind_room_in1 hu) (iU I.aw eb) hd dd ?_;have q:=(rel.val k).fO;rw[Option.isSome_map] at q;rw[<-q,<-l];exact h _ (I.tok _)
theorem Io {Q:Value->Sh->Prop}(hu:A.units+1<cLine)(I:Inv X pins σ H s)(g:iC H a y o)(ry:RelV y u)(h:∀s',Inv X pins σ H s'->Q (.bool (!o.isSome)) s'):
 wpAny (model X.prog X.w) A (compareOp .NotIn u (.ref a)) Q E s:=by
 rcases g with⟨af,k,e,ey,l⟩|⟨af,k,b,e,ey,eb,l⟩
 .subst ey;obtain⟨z,hd,vs,rel,dd⟩:=lQ I.aw e;refine wpAny_notIn_of (oH ry) hd dd.mapOf ?_;rw[<-(rel.val k).fO,<-l];exact h _ (I.tok _)
 .subst ey;cases (show u=Value.ref b from ry);obtain⟨z,hd,xs,rel,dd⟩:=oy I.aw e;refine wpAny_notIn_heap (tupleKind_room_in1 hu) (iU I.aw eb) hd dd ?_;have q:=(rel.val k).fO;rw[Option.isSome_map] at q;rw[<-q,<-l];exact h _ (I.tok _)
theorem kU {h':Heap}{t':Nat}{ob:HO}(I:Inv X pins σ H s)(mu:yx (H a))(hs:Heap.SameBut a s.heap h')(he:∃q,h'.get? a=some q)(new:aV X.prog X.w (upd H a ob) h' a ob):
 Inv X pins σ (upd H a ob) { s with heap:=h',toks:=t' }:=
 I.write (x:=a) (e:=a) mu (.inl rfl) (λb q hb z=>(hs.2 b hb).trans z) he new
theorem Bn {P:Program}{w:World}{H':Hp}{h':Heap}{af:List (Key×V)}{vs:List (Key×Value)}(z:af.length<=sizeLine)(hd:(a==sysModules)=false)(rel:KV af vs)(dd:h'.DictOf (aR P w) a vs):
 aV P w H' h' a (.dK af):=⟨z,hd,vs,rel,dd⟩
theorem BS {H':Hp}{Q:Unit->Sh->Prop}(hu:A.units+1<cLine)(I:Inv X pins σ H s)(g:mZ H a y v H')(ry:RelV y u)(rv:RelV v r)(h:∀s',Inv X pins σ H' s'->Q () s'):
 wpAny (model X.prog X.w) A (setItem (.ref a) u r) Q E s:=by
 rcases g with⟨af,k,e,ey,l,eH⟩|⟨af,k,b,e,ey,eb,l,eH⟩
 .subst ey eH;obtain⟨z,hd,vs,rel,dd⟩:=GJ I.aw e;have hz:vs.length<=sizeLine:=by rw[<-rel.length];exact z
  have hl:(putK af k v).length<=sizeLine:=by have:=oZ af k v;omega
  refine wpAny_setItem_pairs (hsz:=hz) (oH ry) dd λh' mH hs=>h _ ?_;have he:∃q,h'.get? a=some q:=let ⟨q,_,_,hq,_⟩:=mH;⟨q,hq⟩
  exact kU I (by rw[e];exact True.intro) hs he (Bn hl hd (rel.put k rv) mH)
 .subst ey eH;cases (show u=Value.ref b from ry);obtain⟨z,hd,xs,rel,dd⟩:=qY I.aw e;have hz:xs.length<=sizeLine:=by rw[<-Paired.length rel];exact z
  have hl:(putK af k v).length<=sizeLine:=by have:=oZ af k v;omega
  refine wpAny_setItem_heap (hsz:=hz) (tupleKind_room_in1 hu) (iU I.aw eb) dd λh' mH hs=>h _ ?_;obtain⟨q,es,ep,hq,h2,h3,h4,_,h5⟩:=mH;refine kU I (by rw[e];exact True.intro) hs ⟨q,hq⟩ ⟨hl,hd,_,(rel.put k eb rv).keeps λc ys ec=>?_,q,es,ep,hq,h2,h3,h4,h5⟩;rw[ax (ib ec e (λz=>nomatch z))];exact ec
end
section
variable {X:Cx}{pins:List (Addr×Obj)}{σ:St}{H:Hp}{s:Sh}{a:Addr}{af:List (Key×V)}{k:Key}{u:Value}{A:Around}{E:Value->Sh->Prop}
theorem Dg {Q:Unit->Sh->Prop}(I:Inv X pins σ H s)(e:H a=some (.dK af))(ry:RelV (kV k) u)(l:(cX af k).isSome=true)(h:∀s',Inv X pins σ (upd H a (.dK (dA af k))) s'->Q () s'):
 wpAny (model X.prog X.w) A (delItem (.ref a) u) Q E s:=by
 obtain⟨z,hd,vs,rel,dd⟩:=GJ I.aw e;refine wpAny_delItem_slot dd.typeIs (by decide) PySem.F.slot_dict_delitem
  (call_meetsIn PySem.F.slot_dict_delitem dd.typeIs PySem.F.entry_dict_delitem (PySem.F.args_dict_delitem_2 _ _) (meets_dict_delitem_pairs (aR X.prog X.w) a (oH ry)) ⟨vs,dd,by rw[<-rel.length];exact z,by rw[<-(rel.val k).fO];exact l,λh' mH hs=>h _ ?_⟩)
 have he:∃q,h'.get? a=some q:=let ⟨q,_,_,hq,_⟩:=mH;⟨q,hq⟩
 exact kU I (by rw[e];exact True.intro) hs he (Bn (Nat.le_trans (wI af k) z) hd (rel.drop k) mH)
theorem NT {Q:Value->Sh->Prop}(I:Inv X pins σ H s)(e:Rd H a (.dK af))(h:∀t s',Inv X pins σ H s'->Q (.int af.length t) s'):wpAny (model X.prog X.w) A (call (.builtin "len") [.ref a]) Q E s:=by obtain⟨z,hd,vs,rel,dd⟩:=lQ I.aw e;refine call_len_dict hd dd (by rw[<-rel.length];rw[sizeLine_eq] at z;omega) ?_;rw[<-rel.length];exact h _ _ (I.tok _)
end
theorem x3 {X:Cx}{pins:List (Addr×Obj)}{σ:St}{H:Hp}{s:Sh}{a:Addr}{y:V}{o:Option V}(I:Inv X pins σ H s)(g:iC H a y o):s.TypeIs (.ref a) "dict":=by
 rcases g with⟨af,k,e,_,_⟩|⟨af,k,b,e,_,_,_⟩
 .obtain⟨_,_,vs,_,dd⟩:=lQ I.aw e;exact dd.typeIs
 .obtain⟨_,_,xs,_,dd⟩:=oy I.aw e;exact dd.typeIs
section
variable {X:Cx}{o i e value:Expr}{pos pos' Be:Pos}{td ty tv:TE}
end
theorem FX {P:Program}{w:World}{H:Hp}(h:Heap)(hb:sysModules<h.objs.size):aV P w H (h.push { cls:=.type "dict",data:=.dict #[] }) h.objs.size (.dT []):=
 ⟨Nat.zero_le _,beq_eq_false_iff_ne.mpr (Ne.symm (Nat.ne_of_lt hb)),[],.nil,_,#[],0,Heap.get?_push_size _ rfl,⟨rfl,rfl,rfl⟩,rfl,rfl,List.nodup_nil⟩
def Le:TE:=λ_ H Q=>∀p,H p=none->Q (.ref p) (upd H p (.dT []))
section
variable {X:Cx}{pos:Pos}
theorem Fi:PE X (.Dict [] [] pos) Le:=λpins s σ H Q I h=>
 wpAny_Dict_empty ⟨.ref s.heap.objs.size,_,I.laid (a:=s.heap.objs.size) (o:=.dT []) (t':=s.toks) (λ_ _ q=>Heap.get?_push_of_some _ q) (Nat.le_refl _) (FX s.heap I.big),rfl,h _ (I.aw.fresh (Nat.le_refl _))⟩
end
structure M1 (X:Cx)(o:Expr)(m:Str)(apos:Pos)(e:Expr)(dU:Pos):Prop where
 base:attributeBase o m X.env (eval o X.env)=eval o X.env
 few:((backTo dU (starEach [e] X.env)).all (λx=>!x.1)&&(backToKw dU (keywordEach [] X.env)).all (λx=>x.1.isSome)
  && decide (([e]:List Expr).length+([]:List Keyword).length+(if ([]:List Keyword).isEmpty then 0 else 1)<30))=true
 line:(apos.endLine==dU.line)=true
 trees:backTo dU (starEach [e] X.env)=[(false,eval e X.env)]
structure M2 (X:Cx)(o:Expr)(m:Str)(apos:Pos)(e f:Expr)(dU:Pos):Prop where
 base:attributeBase o m X.env (eval o X.env)=eval o X.env
 few:((backTo dU (starEach [e,f] X.env)).all (λx=>!x.1)&&(backToKw dU (keywordEach [] X.env)).all (λx=>x.1.isSome)
  && decide (([e,f]:List Expr).length+([]:List Keyword).length+(if ([]:List Keyword).isEmpty then 0 else 1)<30))=true
 line:(apos.endLine==dU.line)=true
 trees:backTo dU (starEach [e,f] X.env)=[(false,eval e X.env),(false,eval f X.env)]
def L3 (H:Hp)(a:Addr):Prop:=(∃af,Rd H a (.dK af))\/∃af,Rd H a (.dT af)
theorem C4 {X:Cx}{pins:List (Addr×Obj)}{σ:St}{H:Hp}{s:Sh}{a:Addr}(I:Inv X pins σ H s)(d:L3 H a):
 s.TypeIs (.ref a) "dict"/\(∀b,Value.ref a = .ref b->∃ob,s.heap.get? b=some ob/\ob.dict=none)/\(a==sysModules)=false:=by
 rcases d with⟨af,e⟩|⟨af,e⟩
 .obtain⟨_,hd,vs,_,dd⟩:=lQ I.aw e;refine⟨dd.typeIs,λb q=>?_,hd⟩;cases q;obtain⟨ob,_,_,h1,h2,_⟩:=dd;exact⟨ob,h1,h2.2.1⟩
 .obtain⟨_,hd,xs,_,dd⟩:=oy I.aw e;refine⟨dd.typeIs,λb q=>?_,hd⟩;cases q;obtain⟨ob,_,_,h1,h2,_⟩:=dd;exact⟨ob,h1,h2.2.1⟩
section
variable {X:Cx}{pins:List (Addr×Obj)}{σ:St}{H:Hp}{s:Sh}{a:Addr}{y d:V}{u r:Value}{o:Option V}{A:Around}{E:Value->Sh->Prop}
end
section
variable {X:Cx}{o e f:Expr}{apos dU:Pos}{td ty tx:TE}
end
section
variable {X:Cx}{pins:List (Addr×Obj)}{σ:St}{H:Hp}{s:Sh}{a:Addr}{af:List (Key×V)}{A:Around}{E:Value->Sh->Prop}
end
section
variable {X:Cx}{pins:List (Addr×Obj)}{σ:St}{H:Hp}{s:Sh}{a:Addr}{y:V}{u:Value}{A:Around}{E:Value->Sh->Prop}
end
end L2
namespace Att
open PySem PySem.W PySem.Calls PyProof.Rows
theorem q9 {P:Params}{h:Heap}:∀(ns:List Int) (vs:List Value),WellAll P h vs (ns.map WData.int)->IntsAre vs ns:=by
 intro ns
 induction ns with
 | nil=>intro vs w;rw[List.map_nil] at w;cases w;exact .nil
 | cons n ns ih=>
  intro vs w;rw[List.map_cons] at w;cases w with
  | cons a b=>cases a;exact .cons _ _ (ih _ b)
theorem CY {l:OpenLaw}{n:Nat}(hn:l.most=some n){P:Params}{h:Heap}{args:List WData}{vals:List Value}
 (xH:l.row.toRowW.claim.pre args=true) (zo:WellAll P h vals args):
 ∃a vs ns,vals=[Value.ref a]/\args=[WData.list (ns.map WData.int)]/\h.get? a=some { cls:=.type "list",data:=.seq vs.toArray }/\IntsAre vs ns/\ns.length<=n:=by
 have mI:WShape.hasAll [] args [.list .int]=true:=(pre_splitW xH).1;have hc:l.pre.holds [] { args:=args }=true:=(pre_splitW xH).2;obtain⟨d,r,rfl,h1,h2⟩:=hasAllW_cons mI;obtain rfl:=hasAllW_nil h2;obtain⟨xs,rfl,h3⟩:=hasW_list h1;obtain⟨ns,rfl⟩:=items_int h3;have hlen:ns.length<=n:=by
  unfold OpenLaw.pre at hc;have h4:(WTm.not (.lt (.lit (.int (n:Int))) (.len (.arg 0)))).holds [] { args:=[.list (ns.map .int)] }=true:=by have h4:=(holds_andW hc).1;rw[hn] at h4;exact h4
  have h5:=condW_of h4 (w_not (w_lt w_lit (w_len_list (w_arg rfl))));rw[List.length_map] at h5;refine Nat.le_of_not_lt λq=>?_;have q':(n:Int)<((ns.length:Nat):Int):=by omega
  first
   | (rw[decide_eq_true q'] at h5;exact absurd h5 (by decide))
   | (simp at h5;omega)
 cases zo with
 | cons w1 w2=>
  cases w2;cases w1 with
  | list ho fS=>exact⟨_,_,ns,rfl,rfl,ho,q9 ns _ fS,hlen⟩
theorem Cp (l:OpenLaw)(args:List WData):l.row.toRowW.claim.post args (.bool true) args=true:=
 postW_of (r:=l.row.toRowW) (X:=(true==true))
  (show WShape.has [] (.bool true) .bool=true by first | rfl | decide | simp[WShape.has,WShape.arms,WShape.armsAll])
  (show (WTm.eq .res (.lit (.bool true))).value [] { args:=args,res:=some (.bool true),after:=args }=some (.bool (true==true)) from w_eq_bool (w_res rfl) w_lit) rfl
theorem x8 {l:OpenLaw}{n:Nat}{q:Program}{loose:List Str}{XP:(Str->Option Value)->Heap->Prop}{YP:World->Heap->Prop}{d:DefRec}
 (hn:l.most=some n) (DB:d.params.defaults=[])
 (call:∀(w:World) (s₀ s₁:Sh) (mg mb:Str->Option Value) (fa:Addr) (o:Obj) (pm cd doc:Value) (a:Addr) (vs:List Value) (ns:List Int),
   Ground q loose [] XP w s₀ mg mb s₁.heap->YP w s₁.heap ->
   s₁.heap.get? fa=some o->o.data = .func (docDef d.name d.params d.body d.scope pm cd doc)->s₁.heap.CodeRec cd d.name->mg d.name=some (.ref fa) ->
   s₁.heap.get? a=some { cls:=.type "list",data:=.seq vs.toArray }->IntsAre vs ns->ns.length<=n->s₁.gens = #[] ->
   codeAny (model l.prog w) callerA (.call (.ref fa) ⟨[.ref a],[]⟩) (λr s'=>r = .ok (.ret (.bool true))/\OldK s₁.heap s'.heap/\s'.os=s₁.os/\AllBare s'.gens) s₁):
 WalkO q loose XP YP l.row.toRowW d [] (λf vs=>PySem.call f vs):=by
 intro w s₀ s₁ mg mb G Y fa o pm cd doc dV kV ho hd sg hD DC hg args vals as xH hlay hrd zo hlo;obtain rfl:dV = .none:=Dflts.none hD DB;obtain rfl:kV = .none:=Dflts.noKw hD;obtain⟨a,vs,ns,rfl,rfl,FZ,hints,hlen⟩:=CY hn xH zo;refine enter_call (codeAny_mono (call w s₀ s₁ mg mb fa o pm cd doc a vs ns G Y ho (fd_plain hd) sg DC FZ hints hlen hg) λr s' hq=>?_);obtain⟨rfl,h2,h3,h4⟩:=hq;exact⟨.inl ⟨.bool true,.bool true,[],rfl,λ_=>rfl,.bool true,Cp l _,λ_=>⟨List.Pairwise.nil,λ_ hm=>(nomatch hm)⟩⟩,h2,h3,h4⟩
section
variable {prog:Program}{w:World}{A:Around}{E:Value->Sh->Prop}{s:Sh}{K:Frag}
end
end Att
namespace L2
open PySem PySem.Spec PyProof.Rows
theorem uu:∀{vs:List Value} {ns:List Int},IntsAre vs ns->Vals (ns.map V.int) vs
 | _,_,.nil=>.nil
 | _,_,.cons n t h=>.cons ⟨t,rfl⟩ (uu h)
abbrev E0:XK:=λ_ _ _=>False
structure gm (K:Fg)(x qual:Str)(st:Stmt)(f:Addr)(fd:FuncData):Prop where
 ex:∃(oc:Value) (od:Option Addr) (kV doc pm:Value) (an:Option Addr) (gS ct:Value) (uE:Array (Option Value)),
  fd=W.fnOf x qual (df st) (cO st) (bo st) .none kV doc pm an gS ct/\K.lookup f=some ⟨oc,od,.func fd,uE⟩/\W.codeIn K gS qual=true
 kp:W.keepIn K (.ref f)=true
section
variable {P:Program}{w:World}{K:Fg}{mg:Str->Option Value}{base:Heap}
theorem gm.binds {x qual:Str}{st:Stmt}{f:Addr}{fd:FuncData}{ps:List Str}(F:gm K x qual st f fd)
 (h:∀(kV doc pm:Value) (an:Option Addr) (gS ct:Value) (us:List Value),us.length=ps.length->bindArgs (W.fnOf x qual (df st) (cO st) (bo st) .none kV doc pm an gS ct) ⟨us,[]⟩=pure (ps.zip us)):Binds K fd ps []:=by
 obtain⟨oc,od,kV,doc,pm,an,gS,ct,uE,rfl,lk,sg⟩:=F.ex;exact .all (h kV doc pm an gS ct)
theorem rl {x qual:Str}{st:Stmt}{f:Addr}{oc:Value}{od an:Option Addr}{uE:Array (Option Value)}{kV doc pm gS ct:Value}(l:K.lookup f=some ⟨oc,od,.func (W.fnOf x qual (df st) (cO st) (bo st) .none kV doc pm an gS ct),uE⟩)
 (c:W.codeIn K gS qual=true) (k:W.keepIn K (.ref f)=true):gm K x qual st f (W.fnOf x qual (df st) (cO st) (bo st) .none kV doc pm an gS ct):=⟨⟨oc,od,kV,doc,pm,an,gS,ct,uE,rfl,l,c⟩,k⟩
end
theorem Nv {A:Around}{k:Nat}(hr:cT k A):A.units+1<cLine:=Nat.lt_of_le_of_lt (Nat.add_le_add_left (by decide:1<=64) _) hr.units
section
variable {X:Cx}
end
theorem qg {A B:Prop}(h:B):if false=true then A else B:=by rw[if_neg Bool.false_ne_true];exact h
theorem pU {A B:Prop}(h:A):if true=true then A else B:=by rw[if_pos rfl];exact h
section
variable {κ:Type}[DecidableEq κ]
theorem B1 {p:κ×V}{r:List (κ×V)}{k:κ}(e:p.1=k):dA (p::r) k=dA r k:=by unfold dA;rw[List.filter_cons,if_neg (by simp[e])]
theorem tV {p:κ×V}{r:List (κ×V)}{k:κ}(e:¬p.1=k):dA (p::r) k=p::dA r k:=by unfold dA;rw[List.filter_cons,if_pos (by simp[e])]
theorem vN:∀{af:List (κ×V)} {k:κ},¬k∈af.map (·.1)->dA af k=af
 | [],_,_=>rfl
 | p::r,k,h=>by
  have h':¬k∈r.map (·.1):=λm=>by obtain⟨q,hq,e⟩:=List.mem_map.mp m;exact h (List.mem_map.mpr ⟨q,List.mem_cons.mpr (Or.inr hq),e⟩)
  rw[tV λe=>h (List.mem_map.mpr ⟨p,List.mem_cons.mpr (Or.inl rfl),e⟩),vN h']
end
def cP (env:Env):List (Str×NameKind)->List (Str×Addr)->List (Str×Addr)
 | [],cs=>cs
 | (n,k)::r,cs=>cP env r (if (k==NameKind.free)=true then (match env.cells.lookup n with | some c=>(n,c)::cs | none=>cs) else cs)
theorem kE (env:Env):∀(names:List (Str×NameKind)) (cs:List (Str×Addr)),(∀p∈names,p.2=NameKind.free->∃c,env.cells.lookup p.1=some c) ->
 (forIn names cs λ(x:Str×NameKind) (r:List (Str×Addr))=>if (x.2==NameKind.free)=true then do
   let c <-cellOf env x.1
   pure (ForInStep.yield ((x.1,c)::r)) else pure (ForInStep.yield r):Sem (List (Str×Addr)))=pure (cP env names cs)
 | [],cs,_=>rfl
 | (n,k)::r,cs,h=>by
  rw[List.forIn_cons];cases hk:(k==NameKind.free) with
  | false=>
   have e:cP env ((n,k)::r) cs=cP env r cs:=by simp[cP,hk]
   rw[e];simp only[hk,Bool.false_eq_true,if_false,pure_bind];exact kE env r cs λp hp=>h p (List.mem_cons_of_mem _ hp)
  | true=>
   obtain⟨c,hc⟩:=h (n,k) List.mem_cons_self (by simpa using hk);have hc:env.cells.lookup n=some c:=hc;have e:cP env ((n,k)::r) cs=cP env r ((n,c)::cs):=by simp[cP,hk,hc]
   have e2:cellOf env n=pure c:=by unfold cellOf;rw[hc]
   rw[e];simp only[hk,if_true,e2,pure_bind];exact kE env r _ λp hp=>h p (List.mem_cons_of_mem _ hp)
theorem uS {scope:Scope}{env:Env}(h:∀p∈scope.names,p.2=NameKind.free->∃c,env.cells.lookup p.1=some c):closureFor scope env=pure (cP env scope.names []):=by unfold closureFor;have:=kE env scope.names [] h;simp only[bind_pure];exact this
theorem z0 (env:Env)(n:Str)(k:NameKind)(cs:List (Str×Addr))(x:Str)(c:Addr)(h:(if (k==NameKind.free)=true then (match env.cells.lookup n with | some c=>(n,c)::cs | none=>cs) else cs).lookup x=some c):
 cs.lookup x=some c\/env.cells.lookup x=some c:=by
 split at h
 .cases e:env.cells.lookup n with
  | none=>rw[e] at h;exact .inl h
  | some d=>
   rw[e] at h;dsimp only at h;rw[List.lookup_cons] at h;cases hx:x==n with
   | true=>rw[hx] at h;have xA:x=n:=eq_of_beq hx;rw[xA];exact .inr (e.trans h)
   | false=>rw[hx] at h;exact .inl h
 .exact .inl h
theorem eI (env:Env):∀(names:List (Str×NameKind)) (cs:List (Str×Addr)) (x:Str) (c:Addr),(cP env names cs).lookup x=some c->cs.lookup x=some c\/env.cells.lookup x=some c
 | [],_,_,_,h=>.inl h
 | (n,k)::r,cs,x,c,h=>by
  unfold cP at h;rcases eI env r _ x c h with h' | h'
  .exact z0 env n k cs x c h'
  .exact .inr h'
theorem pF (env:Env):∀(names:List (Str×NameKind)) (cs:List (Str×Addr)) (x:Str),(∃c,cs.lookup x=some c)->∃c,(cP env names cs).lookup x=some c
 | [],_,_,h=>h
 | (n,k)::r,cs,x,h=>by
  unfold cP;refine pF env r _ x ?_;split
  .cases e:env.cells.lookup n with
   | none=>exact h
   | some d=>
    dsimp only;rw[List.lookup_cons];cases hx:x==n with
    | true=>exact⟨d,rfl⟩
    | false=>exact h
  .exact h
theorem mh (env:Env):∀(names:List (Str×NameKind)) (cs:List (Str×Addr)) (x:Str),(x,NameKind.free)∈names->(∃c,env.cells.lookup x=some c)->∃c,(cP env names cs).lookup x=some c
 | [],_,_,h,_=>by simp at h
 | (n,k)::r,cs,x,h,⟨c,hc⟩=>by
  unfold cP;rcases List.mem_cons.mp h with e | h
  .obtain⟨rfl,rfl⟩:=Prod.mk.inj e;refine pF env r _ _ ?_;rw[hc];simp[List.lookup_cons]
  .exact mh env r _ x h ⟨c,hc⟩
def GZ (X:Cx)(sc:Scope)(x:Str)(M:List Str)(C:Addr)(s:Sh)(H:Hp)(fp:List Addr):Cx:=
 { X with env:=compEnvC sc (cP X.env sc.names []) C X.env,N:=x::M,s₀:=s,H₀:=H,outer:=X.stack,ex:=fp,fn:=λ_=>false,pn:=[],xe:=λ_ _=>False }
theorem cU {env:Env}{k:NameKind}:∀{names:List (Str×NameKind)} {x:Str},(∀p∈names,p.2≠NameKind.cell) ->
 (names.map λ(n,k)=>if (k==NameKind.free&&env.scope.kind == .function&&env.kindOf n==some .cell) then (n,NameKind.cell) else (n,k)).lookup x=some k->k=NameKind.cell\/k=NameKind.free->(x,NameKind.free)∈names
 | [],_,_,h,_=>by simp at h
 | (n,k')::r,x,hc,h,hk=>by
  have ih:=@cU env k r x (λp hp=>hc p (List.mem_cons_of_mem _ hp));have h:List.lookup x ((if (k'==NameKind.free&&env.scope.kind == .function&&env.kindOf n==some .cell)=true then (n,NameKind.cell) else (n,k'))::(r.map λ(n,k)=>if (k==NameKind.free&&env.scope.kind == .function&&env.kindOf n==some .cell) then (n,NameKind.cell) else (n,k)))=some k:=h
  by_cases hd:(k'==NameKind.free&&env.scope.kind == .function&&env.kindOf n==some .cell)=true
  .rw[if_pos hd,List.lookup_cons] at h;cases hx:x==n with
   | true=>
    have e:x=n:=eq_of_beq hx;have e2:k'=NameKind.free:=by simp only[Bool.and_eq_true] at hd;exact eq_of_beq hd.1.1
    rw[e,e2];exact List.mem_cons_self
   | false=>rw[hx] at h;exact List.mem_cons_of_mem _ (ih h hk)
  .rw[if_neg hd,List.lookup_cons] at h;cases hx:x==n with
   | true=>
    rw[hx] at h;have e:x=n:=eq_of_beq hx;have e2:k'=k:=Option.some.inj h;rcases hk with hk | hk
    .exact absurd (e2.trans hk) (hc (n,k') List.mem_cons_self)
    .rw[e,<-hk,<-e2];exact List.mem_cons_self
   | false=>rw[hx] at h;exact List.mem_cons_of_mem _ (ih h hk)
theorem fA {env:Env}:∀{names:List (Str×NameKind)} {x:Str},
 (names.map λ(n,k)=>if (k==NameKind.free&&env.scope.kind == .function&&env.kindOf n==some .cell) then (n,NameKind.cell) else (n,k)).lookup x=some NameKind.local->names.lookup x=some NameKind.local
 | [],_,h=>by simp at h
 | (n,k')::r,x,h=>by
  have ih:=@fA env r x;have h:List.lookup x ((if (k'==NameKind.free&&env.scope.kind == .function&&env.kindOf n==some .cell)=true then (n,NameKind.cell) else (n,k'))::(r.map λ(n,k)=>if (k==NameKind.free&&env.scope.kind == .function&&env.kindOf n==some .cell) then (n,NameKind.cell) else (n,k)))=some NameKind.local:=h;rw[List.lookup_cons]
  by_cases hd:(k'==NameKind.free&&env.scope.kind == .function&&env.kindOf n==some .cell)=true
  .rw[if_pos hd,List.lookup_cons] at h;cases hx:x==n with
   | true=>rw[hx] at h;cases h
   | false=>rw[hx] at h;exact ih h
  .rw[if_neg hd,List.lookup_cons] at h;cases hx:x==n with
   | true=>rw[hx] at h;exact h
   | false=>rw[hx] at h;exact ih h
section
variable {X:Cx}{pins:List (Addr×Obj)}{σ:St}{H:Hp}{s:Sh}{sc:Scope}{x:Str}{M:List Str}{C:Addr}{fp:List Addr}
end
section
variable {P:Program}{w:World}{H:Hp}{h:Heap}{a:Addr}{o:HO}
theorem aL.Ak (x:aL P w H h)(hn:H a=none)(new:aV P w (upd H a o) h a o):aL P w (upd H a o) h:=λb u e=>by
 by_cases hb:b=a
 .subst hb;rw[az] at e;cases e;exact new
 .rw[ax hb] at e;exact(x b u e).ia (λc v _ q=>q) (λc q=>by rw[ax (bC q hn)];exact q) λc xs q=>by rw[ax (bC q hn)];exact q
end
section
variable {X:Cx}{pins:List (Addr×Obj)}{σ:St}{H:Hp}{s:Sh}
theorem Inv.Ak {a:Addr}{o:HO}(I:Inv X pins σ H s)(hf:eL X pins H a)(ha:X.s₀.heap.objs.size<=a)(new:aV X.prog X.w (upd H a o) s.heap a o):Inv X pins σ (upd H a o) s:=by
 obtain⟨hn,hL,hfs,hs,hc,hp⟩:=hf;refine⟨I.ok,I.os,I.bare,⟨I.base.keep,I.base.slot,λb ob e n x=>?_,I.base.there,λb xs e=>?_,λb ob u e=>?_,λb ps e=>?_⟩,I.loc,I.cell,?_,λy c e=>?_,λp q=>?_,I.aw.Ak hn new,I.len⟩
 .rw[ax (Nat.ne_of_lt (Nat.lt_of_lt_of_le (Heap.lt_size e) ha))];exact I.base.free b ob e n x
 .rw[ax (bC (I.base.dS b xs e) hn)];exact I.base.dS b xs e
 .rw[ax (bC (I.base.da b ob u e) hn)];exact I.base.da b ob u e
 .obtain⟨mr,q⟩:=I.base.jl b ps e;exact⟨mr,by rw[ax (bC q hn)];exact q⟩
 .rw[ax (Ne.symm hL)];exact I.free
 .rw[ax (hc y c e)];exact I.eR y c e
 .obtain⟨e,n,ne,nf,d⟩:=I.pin p q;exact⟨e,by rw[ax (hp p q)];exact n,ne,nf,d⟩
end
def PF (X:Cx)(ifs:List Expr)(t:TT):Prop:=
 ∀(pins:List (Addr×Obj)) (s:Sh) (σ:St) (H:Hp) (Q:Bool->Hp->Prop),Inv X pins σ H s->t σ H Q ->
  wpAny (model X.prog X.w) X.A (forIn ifs true λc r=>if r=true then do let ok <-isTrue c X.env (eval c X.env);pure (ForInStep.yield ok) else pure (ForInStep.yield r)) (TP X pins σ Q) X.xe s
def Ht:TT:=λ_ H Q=>Q true H
theorem Mf {X:Cx}:PF X [] Ht:=λ_ _ _ H _ I h=>wpAny_tests_nil ⟨H,I,h⟩
theorem Ku {X:Cx}{c:Expr}{t:TT}(h:PT X c t):PF X [c] t:=λpins s σ H Q I q=>wpAny_tests_one (h pins s σ H Q I q)
structure zP (q:Cx->Prop)(P:Program)(w:World)(K:Fg)(tg:Expr)(J:It)(fp:List Addr)(it:Addr)(tn:Nat->Heap->Prop):Prop where
 obj:∀i h,tn i h->∀b∈fp,∃o,h.get? b=some o/\∀v,o.data ≠ .cell v
 keep:∀i h h',tn i h->(∀b∈fp,∀o,h.get? b=some o->h'.get? b=some o)->tn i h'
 item:∀(X:Cx),X.prog=P->X.w=w->X.K=K->q X->∀(i:Nat) (pins:List (Addr×Obj)) (s:Sh) (σ:St) (H:Hp) (E:Value->Sh->Prop),Inv X pins σ H s->(∀b∈fp,eL X pins H b)->tn i s.heap->J.go i H ->
  wpAny (model P w) X.A (pyNext (.ref it)) (λr s1=>∃u,r=some u /\
   wpAny (model P w) X.A (letOwnedTupleGo tg (.ref it) u) (λ_ s2=>∃x H',Inv X pins σ H' s2/\RelV x u/\J.xB i H x H'/\tn (i+1) s2.heap/\∀b∈fp,H' b=none) E s1) E s
 done:∀(X:Cx),X.prog=P->X.w=w->X.K=K->q X->∀(i:Nat) (pins:List (Addr×Obj)) (s:Sh) (σ:St) (H:Hp) (E:Value->Sh->Prop),Inv X pins σ H s->(∀b∈fp,eL X pins H b)->tn i s.heap->J.stop i H ->
  wpAny (model P w) X.A (pyNext (.ref it)) (λr s1=>r=none/\Inv X pins σ H s1) E s
 self:∀(A:Around) (i:Nat) (s:Sh) (Q:Value->Sh->Prop) (E:Value->Sh->Prop),tn i s.heap->Q (.ref it) s->wpAny (model P w) A (pyIter (.ref it)) Q E s
theorem Turn.q {P:Program}{w:World}{K:Fg}{tg:Expr}{J:It}{fp:List Addr}{it:Addr}{tn:Nat->Heap->Prop}(T:Turn P w K tg J fp it tn):zP (λX=>X.calm=true) P w K tg J fp it tn:=⟨T.obj,T.keep,T.item,T.done,T.self⟩
section
variable {X:Cx}{pins:List (Addr×Obj)}{σ:St}{H:Hp}{s:Sh}{sc:Scope}{x:Str}{M:List Str}{fp:List Addr}{J:It}{it:Addr}{tn:Nat->Heap->Prop}{px pos:Pos}{elt iter:Expr}{ifs:List Expr}{tt:TT}{te:TE}{R:List V->Hp->Prop}
end
section
variable {X:Cx}{sc:Scope}{x:Str}{px pos:Pos}{elt iter:Expr}{ifs:List Expr}{tt:TT}{te:TE}{wi:TI}
def LB (i:Nat)(t:TE):TS:=λD σ H=>t σ H λv H1=>D.nx (σ.set i (some v)) H1
end
end L2
namespace L2
open PySem PySem.Spec PyProof.Rows PySem.SeqAt
def jf (K:Fg)(H:Hp)(n:Nat)(x y:V)(b:Bool):Prop:=
 ∀(X:Cx) (pins:List (Addr×Obj)) (σ:St) (s:Sh) (A:Around) (u v:Value),X.K=K->Inv X pins σ H s->RelV x u->RelV y v->A.units+n<cLine->EqAt A s u v b/\RcAt A s u v b/\RcNeAt A s u v (!b)
theorem D9 {K:Fg}{H:Hp}{n:Nat}{x y:V}(fx:lM x=true)(fy:lM y=true):jf K H n x y (Ci x y):=by
 intro X pins σ s A u v _ I rx ry _;refine⟨BC rx ry fx fy,?_⟩;cases x with
 | aj=>
  cases rx;cases y with
  | aj=>cases ry;exact⟨RcAt.none_none,RcNeAt.none_none⟩
  | bl b=>cases ry;exact⟨RcAt.none_bool b,RcNeAt.none_bool b⟩
  | int b=>obtain⟨t,rfl⟩:=ry;exact⟨RcAt.none_int b t,RcNeAt.none_int b t⟩
  | str b=>obtain⟨t,rfl⟩:=ry;exact⟨RcAt.none_str b t,RcNeAt.none_str b t⟩
  | _=>cases fy
 | bl a=>
  cases rx;cases y with
  | aj=>cases ry;exact⟨RcAt.bool_none a,RcNeAt.bool_none a⟩
  | bl b=>cases ry;exact⟨RcAt.bool_bool a b,RcNeAt.bool_bool a b⟩
  | int b=>obtain⟨t,rfl⟩:=ry;exact⟨RcAt.bool_int a b t,RcNeAt.bool_int a b t⟩
  | str b=>obtain⟨t,rfl⟩:=ry;exact⟨RcAt.bool_str a b t,RcNeAt.bool_str a b t⟩
  | _=>cases fy
 | int a=>
  obtain⟨ta,rfl⟩:=rx;cases y with
  | aj=>cases ry;exact⟨RcAt.int_none a ta,RcNeAt.int_none a ta⟩
  | bl b=>cases ry;exact⟨RcAt.int_bool a ta b,RcNeAt.int_bool a ta b⟩
  | int b=>obtain⟨t,rfl⟩:=ry;exact⟨RcAt.int_int a ta b t,RcNeAt.int_int a ta b t⟩
  | str b=>obtain⟨t,rfl⟩:=ry;exact⟨RcAt.int_str a ta b t,RcNeAt.int_str a ta b t⟩
  | _=>cases fy
 | str a=>
  obtain⟨ta,rfl⟩:=rx;cases y with
  | aj=>cases ry;exact⟨RcAt.str_none a ta,RcNeAt.str_none a ta⟩
  | bl b=>cases ry;exact⟨RcAt.str_bool a ta b,RcNeAt.str_bool a ta b⟩
  | int b=>obtain⟨t,rfl⟩:=ry;exact⟨RcAt.str_int a ta b t,RcNeAt.str_int a ta b t⟩
  | str b=>obtain⟨t,rfl⟩:=ry;exact⟨RcAt.str_str a ta b t,RcNeAt.str_str a ta b t⟩
  | _=>cases fy
 | _=>cases fx
section
variable {K:Fg}{H:Hp}{n:Nat}{a b:Addr}{xs ys:List V}{e:Nat->Bool}
theorem oC {xs:List V}{ai:List Value}(r:Vals xs ai){j:Nat}(h:j<ai.toArray.size):∃x,xs[j]?=some x/\RelV x ai.toArray[j]:=by
 have hl:j<ai.length:=by simpa using h
 cases q:xs[j]? with
 | none=>have:=List.getElem?_eq_none_iff.mp q;rw[r.length] at this;omega
 | some x=>
  obtain⟨u,hu,ru⟩:=r.get q;refine⟨x,rfl,?_⟩;obtain⟨_,e⟩:=List.getElem?_eq_some_iff.mp hu;have:ai.toArray[j]=u:=by simpa using e
  rw[this];exact ru
theorem in1_units (A:Around):A.in1.units=A.units+1:=rfl
theorem tR (ha:cB K H a xs)(hb:cB K H b ys)(hl:xs.length=ys.length)(pM:a=b->(List.range xs.length).all e=true)(he:∀j x y,xs[j]?=some x->ys[j]?=some y->jf K H n x y (e j)):
 jf K H (n+1) (.ref a) (.ref b) ((List.range xs.length).all e):=by
 intro X pins σ s A u v hK I rx ry hu;subst hK;cases rx;cases ry;obtain⟨ai,r1,p1,_⟩:=I.list ha;obtain⟨dH,r2,p2,_⟩:=I.list hb;have hsz:ai.toArray.size=dH.toArray.size:=by simp[<-r1.length,<-r2.length,hl]
 have es:xs.length=ai.toArray.size:=by simp[<-r1.length]
 have items:∀j (h1:j<ai.toArray.size) (h2:j<dH.toArray.size),EqAt A.in1 s ai.toArray[j] dH.toArray[j] (e j):=λj h1 h2=>by obtain⟨x,e1,q1⟩:=oC r1 h1;obtain⟨y,e2,q2⟩:=oC r2 h2;exact(he j x y e1 e2 X pins σ s A.in1 _ _ rfl I q1 q2 (by rw[in1_units];omega)).1
 have rc:RcAt A s (.ref a) (.ref b) ((List.range xs.length).all e):=by rw[es];exact RcAt.lists p1.isList p2.isList hsz (by omega) items
 refine⟨?_,rc,?_⟩
 .by_cases h:a=b
  .rw[pM h,h];exact EqAt.same _
  .exact .of_refs h rc
 .rw[es];exact RcNeAt.lists p1.isList p2.isList hsz (by omega) items
theorem mw (ha:cB K H a xs)(hb:cB K H b ys)(hl:xs.length≠ys.length):jf K H n (.ref a) (.ref b) false:=by
 intro X pins σ s A u v hK I rx ry hu;subst hK;cases rx;cases ry;obtain⟨ai,r1,p1,_⟩:=I.list ha;obtain⟨dH,r2,p2,_⟩:=I.list hb;have hsz:(ai.toArray.size != dH.toArray.size)=true:=by simp[<-r1.length,<-r2.length,hl]
 have rc:RcAt A s (.ref a) (.ref b) false:=RcAt.lists_lengths p1.isList p2.isList hsz (by omega);refine⟨.of_refs (λh=>?_) rc,rc,RcNeAt.lists_lengths p1.isList p2.isList hsz (by omega)⟩;subst h;exact hl (by rw[I.pV ha hb])
theorem Ac (ha:cz K H a xs)(hb:cz K H b ys)(pM:a=b->((List.range (min xs.length ys.length)).all e&&xs.length==ys.length)=true)(he:∀j x y,xs[j]?=some x->ys[j]?=some y->jf K H n x y (e j)):
 jf K H (n+1) (.ref a) (.ref b) ((List.range (min xs.length ys.length)).all e&&xs.length==ys.length):=by
 intro X pins σ s A u v hK I rx ry hu;subst hK;cases rx;cases ry;obtain⟨ai,r1,p1,_⟩:=I.tuple ha;obtain⟨dH,r2,p2,_⟩:=I.tuple hb;have es:xs.length=ai.toArray.size:=by simp[<-r1.length]
 have es2:ys.length=dH.toArray.size:=by simp[<-r2.length]
 have items:∀j (h1:j<ai.toArray.size) (h2:j<dH.toArray.size),EqAt A.in1 s ai.toArray[j] dH.toArray[j] (e j):=λj h1 h2=>by obtain⟨x,e1,q1⟩:=oC r1 h1;obtain⟨y,e2,q2⟩:=oC r2 h2;exact(he j x y e1 e2 X pins σ s A.in1 _ _ rfl I q1 q2 (by rw[in1_units];omega)).1
 have p1:s.heap.IsTuple a ai.toArray:=p1;have p2:s.heap.IsTuple b dH.toArray:=p2;have rc:RcAt A s (.ref a) (.ref b) ((List.range (min xs.length ys.length)).all e&&xs.length==ys.length):=by rw[es,es2];exact RcAt.tuples p1 p2 (by omega) items
 refine⟨?_,rc,?_⟩
 .by_cases h:a=b
  .rw[pM h,h];exact EqAt.same _
  .exact .of_refs h rc
 .rw[es,es2];exact RcNeAt.tuples p1 p2 (by omega) items
theorem Lk {m:Nat}{x y:V}{k:Bool}(h:jf K H n x y k)(hm:n<=m):jf K H m x y k:=λX pins σ s A u v hK I rx ry hu=>h X pins σ s A u v hK I rx ry (by omega)
end
section
variable {X:Cx}{n:Nat}
def Ml (K:Fg)(n:Nat):R2:=λx y H Q=>∃b,jf K H n x y b/\Q (.bl b) H
def KJ (K:Fg)(n:Nat):R2:=λx y H Q=>∃b,jf K H n x y b/\Q (.bl (!b)) H
theorem Kj (hu:X.A.units+n<cLine):bP X (compareOp .Eq) (Ml X.K n):=by intro pins s σ H x y v u Q I rx ry h;obtain⟨b,c,q⟩:=h;exact(c X pins σ s X.A _ _ rfl I rx ry hu).2.1 _ _ _ _ ⟨.bl b,H,I,rfl,q⟩
theorem Ka (hu:X.A.units+n<cLine):bP X (compareOp .NotEq) (KJ X.K n):=by intro pins s σ H x y v u Q I rx ry h;obtain⟨b,c,q⟩:=h;exact(c X pins σ s X.A _ _ rfl I rx ry hu).2.2 _ _ _ _ ⟨.bl (!b),H,I,rfl,q⟩
end
section
variable {X:Cx}
theorem HR:bP X (binaryOp .Mult) (rI IntMulOk λi j=>.int (i*j)):=G6 λ_ _ _ _ _ _ _ hc q=>PyProof.Rows.mul_int q hc
def Ge (i j:Int):Prop:=0<j/\j.natAbs.log2<9000
theorem FE:bP X (binaryOp .FloorDiv) (rI Ge λi j=>.int (i / j)):=G6 λi j _ _ _ _ _ hc q=>by have h1:(0:Int)<j:=hc.1;exact floordiv_int (by omega) (by rw[Int.fdiv_eq_ediv_of_nonneg i (by omega)];exact q) (.inl (PyProof.noPylong_of_log2 hc.2))
def OA (K:Fg):List V->Hp->VK->Prop:=λxs H Q=>∃x c t cv b,xs=[x,c]/\RelV c cv/\(∀u,RelV c u->u=cv)/\gZ K H x t/\W.kitOne K t cv=some b/\Q (.bl b) H
theorem Ex:dz X (.builtin "isinstance") (OA X.K):=by intro pins s σ H xs us Q I r h;obtain⟨x,c,t,cv,b,rfl,rc,uc,ty,e,q⟩:=h;obtain⟨u,v,rfl,ru,rv⟩:=vals2 r;cases uc v rv;exact Dl I ru ty e λtk=>⟨.bl b,H,I.tok tk,rfl,q⟩
theorem DW {prog:Program}{w:World}{A:Around}{E:Value->Sh->Prop}{s:Sh}{t b:Addr}{vs ws:List Value}{Q:Value->Sh->Prop}(ht:IsTup s.heap t vs.toArray)(hb:IsTup s.heap b ws.toArray)(hv:vs=[])
 (h1:Q (.ref b) s):wpAny (model prog w) A (binaryOp .Add (.ref t) (.ref b)) Q E s:=by
 obtain⟨⟨c1,d1,dt1,sl1⟩,ho,hc,n,hd⟩:=id ht;obtain⟨⟨c2,d2,dt2,sl2⟩,pK,DA,n2,hd2⟩:=id hb;simp only at hc hd DA hd2;subst hc hd DA hd2;exact concat_meets ⟨_,ho,rfl⟩ ⟨_,pK,rfl⟩ noFill_tuple_add seq_tuple_add PySem.F.slot_tuple_add PySem.F.entry_tuple_add (PySem.F.args_tuple_add_2 _ _)
  (tuple_addW0 t b vs.toArray ws.toArray n n2 d1 d2 sl1 sl2 (by simp[hv])) ⟨ho,pK,h1⟩
def GU (K:Fg):R2:=λx y H Q=>∃a b xs ys,x = .ref a/\y = .ref b/\cz K H a xs/\cz K H b ys/\xs.length+ys.length<=sizeLine /\
 (xs=[]->Q (.ref b) H)/\(xs≠[]->ys=[]->Q (.ref a) H)/\(xs≠[]->ys≠[]->∀p,H p=none->Q (.ref p) (upd H p (.tup (xs++ys))))
theorem JK:bP X (binaryOp .Add) (GU X.K):=by
 intro pins s σ H x y v u Q I rx ry h;obtain⟨a,b,xs,ys,rfl,rfl,ha,hb,hz,h0,h1,h2⟩:=h;cases rx;cases ry;obtain⟨ai,r1,p1,_⟩:=I.tuple ha;obtain⟨dH,r2,p2,_⟩:=I.tuple hb
 by_cases hx:xs=[]
 .exact DW p1 p2 (r1.gM.mpr hx) ⟨.ref b,H,I,rfl,h0 hx⟩
 .refine HT.HZ p1 p2 (λz=>hx (r1.gM.mp z)) (λz=>⟨.ref a,H,I,rfl,h1 hx (r2.gM.mp z)⟩) (λz=>?_) (by rw[<-r1.length,<-r2.length];exact hz);refine⟨.ref s.heap.objs.size,_,I.laid (o:=.tup (xs++ys)) (t':=s.toks) (λc o e=>Heap.get?_push_of_some _ e) (Nat.le_refl _) ?_,rfl,h2 hx (λq=>z (r2.gM.mpr q)) _ I.fresh⟩;exact⟨by rw[List.length_append];exact hz,ai++dH,r1.append r2,⟨_,Heap.get?_push_size _ rfl,rfl,_,rfl⟩⟩
def Pd (K:Fg):List V->Hp->VK->Prop:=λxs H Q=>∃(a:Addr) (bs:List Bool),xs=[.ref a]/\cB K H a (bs.map V.bl)/\Q (.bl (bs.all id)) H
theorem Co (hc:X.calm=true):dz X (.builtin "all") (Pd X.K):=by
 intro pins s σ H xs us Q I r h;obtain⟨a,bs,rfl,ha,q⟩:=h;obtain⟨u,rfl,ru⟩:=vals1 r;cases ru;obtain⟨ai,r1,p1,hz⟩:=I.list ha;refine call_all_walk ?_;refine wpAny_pyIter_list p1.isList ?_;have cN:a≠s.heap.objs.size:=λz=>by obtain⟨o,n,e,_⟩:=p1;exact absurd (Heap.lt_size e) (by rw[z];exact Nat.lt_irrefl _)
 refine⟨s.heap.objs.size,_,_,ai.toArray.size,_,_,λi=>bs.getD i true,rfl,Walks.list (A:=X.A.in1) (I.ok.hd hc) _ a cN ai.toArray,⟨⟨_,Heap.get?_push_size _ rfl,rfl,rfl⟩,?_⟩,λi v s' Q' E' hP hQ=>?_,λh' tk hk=>?_⟩
 .obtain⟨o,n,e,c,_,d⟩:=p1;exact⟨o,Heap.get?_push_of_some _ e,c,n,d⟩
 .have hi:ai[i]?=some v:=by simpa using hP
  have hl:=r1.length;rw[List.length_map] at hl;have de:i<bs.length:=by have:=(List.getElem?_eq_some_iff.mp hi).1;omega
  obtain⟨w',hw,rw'⟩:=r1.get (i:=i) (x:=V.bl bs[i]) (by rw[List.getElem?_map,List.getElem?_eq_getElem de];rfl);rw[hi] at hw;cases hw;cases rw';refine wpAny_truthy_bool ?_;have:bs.getD i true=bs[i]:=by simp[de]
  rw[<-this];exact hQ
 .refine⟨.bl _,H,I.kept (t':=tk) (λb o e=>hk b o (λz=>?_) (Heap.get?_push_of_some _ e)),rfl,?_⟩
  .have:b=s.heap.objs.size:=by simpa using z
   exact absurd (Heap.lt_size e) (by rw[this];exact Nat.lt_irrefl _)
  .have:(List.range ai.toArray.size).all (λi=>bs.getD i true)=bs.all id:=by
    have hl:ai.toArray.size=bs.length:=by have:=r1.length;rw[List.length_map] at this;simpa using this.symm
    rw[hl,Bool.eq_iff_iff,List.all_eq_true,List.all_eq_true];constructor
    .intro h b hb;obtain⟨i,hi,rfl⟩:=List.getElem_of_mem hb;have:=h i (by simpa using hi);simpa[hi] using this
    .intro h i hi;have hi:i<bs.length:=by simpa using hi
     have:=h bs[i] (List.getElem_mem hi);simpa[hi] using this
   rw[this];exact q
def Cw (x:Str):It:=⟨λi _=>i<x.cps.size,λi H y H'=>H'=H/\∃c,x.cps[i]?=some c/\y = .str ⟨#[c]⟩,λi _=>x.cps.size<=i⟩
def OJ (tl:TE):TI:=λσ H R=>tl σ H λx H1=>∃z,x = .str z/\R (Cw z) H1
theorem xk {P:Program}{w:World}{K:Fg}{y:Str}{py:Pos}{z:Str}{t:Tok}{ty:String}(it:Addr)(W:∀A':Around,A'.handled=none->Walks P w A' it [it] [it] z.cps.size (SignAt z) (λi h=>h.IsStrIter it ty z t i))(hs:∀(A:Around) (i:Nat) (s:Sh) (Q:Value->Sh->Prop) (E:Value->Sh->Prop),s.heap.IsStrIter it ty z t i->Q (.ref it) s->wpAny (model P w) A (pyIter (.ref it)) Q E s):
 Turn P w K (.Name y py) (Cw z) [it] it (λi h=>h.IsStrIter it ty z t i/\i<=z.cps.size) where
 mem:=by simp
 obj:=λi h st b hb=>by
  have e:b=it:=by simpa using hb
  subst e;obtain⟨⟨o,e,c,d⟩,_⟩:=st;exact⟨o,e,λv z=>by rw[d] at z;cases z⟩
 keep:=λi h h' st k=>by obtain⟨⟨o,e,r⟩,q⟩:=st;exact⟨⟨o,k it (by simp) o e,r⟩,q⟩
 item:=by intro X hP hw hK hc i pins s σ H E I hf st hg;subst hP hw hK;obtain⟨f0,f1,f2,f3,f4,f5⟩:=hf it (by simp);refine(W X.A (I.ok.hd hc)).item i s _ _ hg st.1 λv h' tk hv jq hk=>?_;obtain⟨c,u,e1,rfl⟩:=hv;have I1:Inv X pins σ H { s with heap:=h',toks:=tk }:=I.turned (t':=tk) (λb o hb e=>hk b o (by simpa using hb) e) f0 f1 f3 f4 f5;refine⟨_,rfl,?_⟩;show wpAny _ _ (pure ()) _ _ _;exact wpAny_pure ⟨.str ⟨#[c]⟩,H,I1,⟨_,rfl⟩,⟨rfl,c,e1,rfl⟩,⟨jq,hg⟩,λb hb=>(hf b hb).1⟩
 done:=by intro X hP hw hK hc i pins s σ H E I hf st hg;subst hP hw hK;obtain⟨f0,f1,f2,f3,f4,f5⟩:=hf it (by simp);have e:i=z.cps.size:=Nat.le_antisymm st.2 hg;subst e;exact(W X.A (I.ok.hd hc)).done s _ _ st.1 λh' tk hk=>⟨rfl,I.turned (t':=tk) (λb o hb e=>hk b o (by simpa using hb) e) f0 f1 f3 f4 f5⟩
 self:=λA i s Q E st h=>hs A i s Q E st.1 h
theorem LR {l:Expr}{tl:TE}{y:Str}{py:Pos}(hl:PE X l tl):PI X (.Name y py) l (OJ tl):=by
 intro pins s σ H R I h;refine aK (hl pins s σ H _ I h) λv s1 ⟨x,H1,I1,r1,q1⟩=>?_;obtain⟨z,rfl,q⟩:=q1;obtain⟨t,rfl⟩:=r1;have fo:∀b∈[s1.heap.objs.size],eL X pins H1 b:=λb hb=>by
  have e:b=s1.heap.objs.size:=by simpa using hb
  subst e;exact I1.me (Nat.le_refl _) (I1.aw.fresh (Nat.le_refl _))
 cases ha:z.cps.all (· < 128) with
 | false=>exact wpAny_pyIter_wide ha ⟨s1.heap.objs.size,[s1.heap.objs.size],_,Cw z,H1,rfl,I1.kept (t':=s1.toks) λb o e=>Heap.get?_push_of_some _ e,xk _ (λA' hA=>Walks.strWide hA _ z t) (λ_ _ _ _ _ st h=>wpAny_pyIter_striter_wide st h),⟨⟨_,Heap.get?_push_size _ rfl,rfl,rfl⟩,Nat.zero_le _⟩,fo,q⟩
 | true=>exact wpAny_pyIter_ascii ha ⟨s1.heap.objs.size,[s1.heap.objs.size],_,Cw z,H1,rfl,I1.kept (t':=s1.toks) λb o e=>Heap.get?_push_of_some _ e,xk _ (λA' hA=>Walks.strAscii hA _ z t) (λ_ _ _ _ _ st h=>wpAny_pyIter_striter_ascii st h),⟨⟨_,Heap.get?_push_size _ rfl,rfl,rfl⟩,Nat.zero_le _⟩,fo,q⟩
end
section
variable {prog:Program}{w:World}{A:Around}{E:Value->Sh->Prop}{s:Sh}{it d:Addr}{i n ep:Nat}{od:Obj}{es:Array DictEntry}
theorem xt {Q:Option Value->Sh->Prop}(hit:s.heap.IsKeyIter it d i n ep)(hd:s.heap.get? d=some od)(fg:od.data = .dict es ep)(hn:es.size=n)(hi:i<es.size)
 (hQ:∀h',h'.IsKeyIter it d (i+1) n ep->Heap.SameBut it s.heap h'->Q (some es[i].key) { s with heap:=h' }):wpAny (model prog w) A (pyNext (.ref it)) Q E s:=by
 obtain⟨oi,zp,hci,xI⟩:=id hit;subst hn;unfold pyNext;refine wpAny_bind (wpAny_attempt (wpAny_callSpecial?_slot (name:=Str.ofString "__next__") hit.typeIs F.slot_dict_keyiterator_next (wpAny_call_entry F.slot_dict_keyiterator_next hit.typeIs F.entry_dict_keyiterator_next ?tree (F.args_dict_keyiterator_next_1 _))));refine wpAny_bind (wpAny_pure (wpAny_bind (wpAny_bind ?_)))
 first | refine wpAny_bind (wpAny_typeNameOfWhole_keyiter hit.typeIs (wpAny_pure ?_)) | refine wpAny_bind (wpAny_typeNameOf_keyiter hit.typeIs (wpAny_pure ?_))
 refine wpAny_bind (wpAny_fieldsOf zp xI ?_);simp only[show Builtin.Dict_items.ownsTuple "dict_keyiterator" = false by decide,Bool.false_eq_true,if_false];show wpAny _ _ (if (Value.ref d==Value.none)=true then _ else _) _ _ s;rw[if_neg (show ¬((Value.ref d==Value.none)=true) from Bool.false_ne_true)];refine wpAny_bind (wpAny_pure (wpAny_bind (wpAny_dictEntries hd fg ?_)));rw[if_neg (by simp)];refine wpAny_bind (wpAny_pure (wpAny_bind (wpAny_dictEpoch hd fg ?_)));rw[if_neg (by simp)];refine wpAny_pure ?_;simp only[show ¬((i:Int)<0) from by omega,if_false,Int.toNat_natCast,Array.getElem?_eq_getElem hi];refine wpAny_bind ?_
 first | refine wpAny_bind (wpAny_typeNameOfWhole_keyiter hit.typeIs (wpAny_pure ?_)) | refine wpAny_bind (wpAny_typeNameOf_keyiter hit.typeIs (wpAny_pure ?_))
 refine wpAny_bind (wpAny_isOneOf_keyiter hit.typeIs ?_);show wpAny _ _ (setField (.ref it) 1 (rawInt ((i:Int)+1)) >>= _) _ _ s;refine wpAny_bind (wpAny_setField zp xI (by simp) ?_);have hx:(s.heap.update it (Obj.mapFields (·.setIfInBounds 1 (rawInt ((i:Int)+1))))).IsKeyIter it d (i+1) es.size ep:=
  ⟨_,Heap.get?_update_self _ zp (Obj.isFreed_of_fields (Obj.data_mapFields xI _)),(Obj.cls_mapFields ..).trans hci,by rw[Obj.data_mapFields xI];simp[rawInt]⟩
 refine wpAny_bind (wpAny_holding (wpAny_bind (wpAny_isOneOf_keyiter (s:={ s with heap:=s.heap.update it (Obj.mapFields (·.setIfInBounds 1 (rawInt ((i:Int)+1)))) }) hx.typeIs ?_)));show wpAny _ _ (pure es[i].key) _ _ _;exact wpAny_pure (wpAny_pure ⟨_,rfl,wpAny_pure (hQ _ hx (Heap.SameBut.update ..))⟩)
theorem next_end {Q:Option Value->Sh->Prop}(hh:A.handled=none)(hit:s.heap.IsKeyIter it d i n ep)(hd:s.heap.get? d=some od)(fg:od.data = .dict es ep)(hn:es.size=n)(hi:es.size<=i)
 (hQ:∀h',Heap.ExtBut it s.heap h'->Q none { s with heap:=h' }):wpAny (model prog w) A (pyNext (.ref it)) Q E s:=by
 obtain⟨oi,zp,hci,xI⟩:=id hit;subst hn;unfold pyNext;refine wpAny_bind (wpAny_attempt (wpAny_callSpecial?_slot (name:=Str.ofString "__next__") hit.typeIs F.slot_dict_keyiterator_next (wpAny_call_entry F.slot_dict_keyiterator_next hit.typeIs F.entry_dict_keyiterator_next ?tree (F.args_dict_keyiterator_next_1 _))));refine wpAny_bind (wpAny_pure (wpAny_bind (wpAny_bind ?_)))
 first | refine wpAny_bind (wpAny_typeNameOfWhole_keyiter hit.typeIs (wpAny_pure ?_)) | refine wpAny_bind (wpAny_typeNameOf_keyiter hit.typeIs (wpAny_pure ?_))
 refine wpAny_bind (wpAny_fieldsOf zp xI ?_);simp only[show Builtin.Dict_items.ownsTuple "dict_keyiterator" = false by decide,Bool.false_eq_true,if_false];show wpAny _ _ (if (Value.ref d==Value.none)=true then _ else _) _ _ s;rw[if_neg (show ¬((Value.ref d==Value.none)=true) from Bool.false_ne_true)];refine wpAny_bind (wpAny_pure (wpAny_bind (wpAny_dictEntries hd fg ?_)));rw[if_neg (by simp)];refine wpAny_bind (wpAny_pure (wpAny_bind (wpAny_dictEpoch hd fg ?_)));rw[if_neg (by simp)];refine wpAny_pure ?_;simp only[show ¬((i:Int)<0) from by omega,if_false,Int.toNat_natCast,Array.getElem?_eq_none hi];refine wpAny_bind ?_
 first | refine wpAny_bind (wpAny_typeNameOfWhole_keyiter hit.typeIs (wpAny_pure ?_)) | refine wpAny_bind (wpAny_typeNameOf_keyiter hit.typeIs (wpAny_pure ?_))
 show wpAny _ _ (setField (.ref it) 0 .none >>= _) _ _ s;refine wpAny_bind (wpAny_setField zp xI (by simp) ?_);show wpAny _ _ (newExc (.type "StopIteration") [] >>= _) _ _ _;refine wpAny_bind ?_;simp only[newExc,newTuple];refine wpAny_bind (wpAny_newObj_type ?_ (by size_fits));refine wpAny_bind (m:=firstArgMember _ _) (wpAny_of_eq (a:=Value.none) (by first | rfl | (simp only[firstArgMember];rfl)) ?_);refine wpAny_newObj_type ?_ (by size_fits);simp only[raiseNew];refine wpAny_bind (wpAny_handled ?_);rw[show A.in1.handled=none from hh];refine wpAny_bind (wpAny_pure (wpAny_throw ?thrown));refine wpAny_bind (wpAny_isInstance (T:="StopIteration") (b:=true) ⟨_,Heap.get?_push_size _ rfl,rfl⟩ isSubtype_stop ?_);exact wpAny_pure (hQ _ (((Heap.SameBut.update ..).extBut.push _).push _))
theorem uk {Q:Value->Sh->Prop}(hs:(d==sysModules)=false)(hd:s.heap.get? d=some od)(hx:od.ExactDict)(fg:od.data = .dict es ep)
 (hQ:Q (.ref s.heap.objs.size) { s with heap:=s.heap.push { cls:=.type "dict_keyiterator",data:=.fields #[.ref d,.int 0 0,.int es.size 0,.int ep 0] } }):wpAny (model prog w) A (pyIter (.ref d)) Q E s:=by
 have hT:s.TypeIs (.ref d) "dict":=⟨od,hd,hx.1⟩;refine wpAny_pyIter_slot hT F.slot_dict_iter (wpAny_call_entry F.slot_dict_iter hT F.entry_dict_iter ?_ (F.args_dict_iter_1 _));unfold Builtin.«dict.__iter__» Builtin.Dict.dictSlotNone;refine wpAny_bind (wpAny_bind (wpAny_notOrdered_dict hT ?_));show wpAny _ _ (pure (Value.ref d)) _ _ s;refine wpAny_pure ?_;show wpAny _ _ (Builtin.Dict.showsAll d >>= _) _ _ s;unfold Builtin.Dict.showsAll;rw[if_neg (by rw[hs];exact Bool.false_ne_true)];refine wpAny_bind (wpAny_pure (wpAny_bind (wpAny_dictEntries hd fg (wpAny_bind (wpAny_dictEpoch hd fg ?_)))));refine wpAny_bind (wpAny_newObj_type (wpAny_pure ⟨_,rfl,"dict_keyiterator",_,⟨_,Heap.get?_push_size _ rfl,rfl⟩,F.slot_dict_keyiterator_next.lookup,?_⟩));simpa[rawInt] using hQ
end
section
variable {prog:Program}{w:World}{A:Around}{E:Value->Sh->Prop}{s:Sh}{d:Addr}{ep:Nat}{od:Obj}{es:Array DictEntry}
theorem zG (hh:A.handled=none)(it:Addr)(cN:d≠it)(fg:od.data = .dict es ep):
 Walks prog w A it [it,d] [it] es.size (λi v=>es[i]?.map (·.key)=some v) (λi h=>h.IsKeyIter it d i es.size ep/\h.get? d=some od) where
 sub:=λb hb=>by simp at hb;simp[hb]
 frame:=λ_ _ _ st hk=>⟨st.1.at λo e=>hk it (by simp) o e,hk d (by simp) _ st.2⟩
 item:=λi s Q E hi st hQ=>by refine xt st.1 st.2 fg rfl hi λh' hit' sb=>?_;exact hQ es[i].key h' s.toks (by simp[hi]) ⟨hit',(sb.2 d cN).trans st.2⟩ λb o hb e=>(sb.2 b λz=>hb (by simp[z])).trans e
 done:=λs Q E st hQ=>next_end hh st.1 st.2 fg rfl (Nat.le_refl _) λh' DD=>hQ h' s.toks λb o hb e=>DD b o (λz=>hb (by simp[z])) e
 self:=λ_ _ _ _ st hQ=>wpAny_pyIter_keyiter st.1 hQ
theorem E1 (lo:(d==sysModules)=false)(hx:od.ExactDict)(fg:od.data = .dict es ep):W.KdlSrc prog w "dict" d d es.size (λi v=>es[i]?.map (·.key)=some v) (λh=>h.get? d=some od) where
 type:=λ_ hm=>⟨od,hm,hx.1⟩
 there:=λ_ hm=>⟨Heap.lt_size hm,Heap.lt_size hm⟩
 keep:=λ_ _ hm hk=>hk d (.inl rfl) _ hm
 notList:=by decide
 notTuple:=by decide
 hint:=λ_ _ _ _ hm hq=>W.kdl_hint_dict ⟨od,hm,hx.1⟩ hq
 iter:=λ_ _ hh hm=>⟨_,_,(λ_ _ hq=>uk lo hm hx fg hq),zG hh _ (Nat.ne_of_lt (Heap.lt_size hm)) fg,⟨⟨_,Heap.get?_push_size _ rfl,rfl,rfl⟩,Heap.get?_push_of_some _ hm⟩⟩
end
section
variable {prog:Program}{w:World}{A:Around}{E:Value->Sh->Prop}{s:Sh}{d:Addr}{ep:Nat}{od:Obj}{es:Array DictEntry}
theorem uO (lo:(d==sysModules)=false)(fg:od.data = .dict es ep):
 MeetsIn prog w (Builtin.«dict.__len__» ⟨[.ref d],[]⟩) (λ_ R s=>s.heap.get? d=some od/\R (.ok (.ret (.int es.size s.toks))) { s with toks:=s.toks+1 }):=
 .of_wp λA R s ⟨ho,h⟩=>by show wpAny _ _ (dictSize d >>= _) _ _ s;unfold dictSize;refine wpAny_bind (wpAny_bind (wpAny_dictEntries ho fg (wpAny_pure ?_)));show wpAny _ _ (Builtin.Dict.pendingCount d >>= _) _ _ s;exact wpAny_bind (wpAny_pendingCount_other lo (wpAny_ret_mkInt (by rw[Nat.add_zero];exact h)))
theorem Jm {Q:Value->Sh->Prop}(lo:(d==sysModules)=false)(ho:s.heap.get? d=some od)(hx:od.ExactDict)(fg:od.data = .dict es ep)(jm:(es.size:Int)<2 ^ 63)
 (h:Q (.int es.size (s.toks+1)) { s with toks:=s.toks+1+1 }):wpAny (model prog w) A (Builtin.«len» ⟨[.ref d],[]⟩) (λfin s'=>∃r,fin = .done (.ret r)/\Q r s') E s:=by
 have hT:s.TypeIs (.ref d) "dict":=⟨od,ho,hx.1⟩;unfold Builtin.«len»;refine wpAny_bind (m:=oneArg "len" _) (wpAny_pure ?_);refine wpAny_bind (m:=callSpecial? (.ref d) (Str.ofString "__len__")) (wpAny_callSpecial?_slot (name:=Str.ofString "__len__") hT PySem.F.slot_dict_len (call_meetsIn PySem.F.slot_dict_len hT PySem.F.entry_dict_len (PySem.F.args_dict_len_1 _) (uO lo fg) ⟨ho,?_⟩));show wpAny _ _ _ _ _ { s with toks:=s.toks+1 };refine wpAny_bind (wpAny_holding (wpAny_pure (wpAny_bind (wpAny_letGo ?_))));show wpAny _ _ (if ((es.size:Nat):Int)<0 then _ else _) _ _ _;rw[if_neg (by omega)];show wpAny _ _ (if ((es.size:Nat):Int) >= 2 ^ 63 then _ else _) _ _ _;rw[if_neg (by omega)];exact wpAny_bind (wpAny_mkInt (wpAny_pure ⟨_,rfl,h⟩))
end
section
variable {X:Cx}{pins:List (Addr×Obj)}{σ:St}{H:Hp}{s:Sh}{a:Addr}{af:List (List Key×V)}{k:List Key}
theorem lq (I:Inv X pins σ H s)(e:Rd H a (.dT af)):∃(od:Obj) (es:Array DictEntry) (ep:Nat),s.heap.get? a=some od/\od.ExactDict/\od.data = .dict es ep/\(a==sysModules)=false/\es.size=af.length/\af.length<=sizeLine /\
 ∀(i:Nat) (p:List Key×V),af[i]?=some p->∃b,es[i]?.map (·.key)=some (.ref b)/\H b=some (.tup (p.1.map kV)):=by
 obtain⟨z,hd,xs,rel,o,es,ep,h1,h2,h3,h4,h5⟩:=(show aV X.prog X.w H s.heap a (.dT af) from e.ok I.aw);have hl:af.length=xs.length:=Paired.length rel;refine⟨o,es,ep,h1,h2,h3,hd,by rw[size_of_entries h4,hl],z,λi p hp=>?_⟩;have all:∀{l:List (List Key×V)} {m:List (List Key×Addr×Value)},KT H l m->∀(i:Nat) p,l[i]?=some p->∃q,m[i]?=some q/\H q.2.1=some (.tup (p.1.map kV)):=by
  intro l m q
  induction q with
  | nil=>intro i p h;simp at h
  | @cons p' q' ps qs hq t ih=>
   intro i p h;cases i with
   | zero=>
    have:p'=p:=by simpa using h
    subst this;exact⟨q',by simp,hq.2.1⟩
   | succ i=>obtain⟨q2,e1,e2⟩:=ih i p (by simpa using h);exact⟨q2,by simpa using e1,e2⟩
 obtain⟨q,e1,e2⟩:=all rel i p hp;refine⟨q.2.1,?_,e2⟩;rw[entry_at h4 i,e1];rfl
theorem Ax (hc:X.calm=true):dz X (.type "list") (λxs H Q=>∃a af,xs=[V.ref a]/\Rd H a (.dT af)/\∀l ys,H l=none->ys.length=af.length->(∀(i:Nat) p,af[i]?=some p->∃b,ys[i]?=some (V.ref b)/\H b=some (.tup (p.1.map kV)))->Q (.ref l) (upd H l (.lst ys))):=by
 intro pins s σ H xs us Q I r h;obtain⟨a,af,rfl,ha,q⟩:=h;obtain⟨u,rfl,ru⟩:=vals1 r;cases ru;obtain⟨od,es,ep,h1,h2,h3,h4,h5,h6,h7⟩:=lq I ha;refine W.kdl_call (E1 h4 h2 h3) (I.ok.hd hc) h1 (by rw[h5];exact h6) λh' tk ml c' hk hD tj=>?_;have addr:∀i:Nat,i<af.length->∃b,ml[i]?=some (.ref b)/\∀p,af[i]?=some p->H b=some (.tup (p.1.map kV)):=λi hi=>by
  obtain⟨b,e1,e2⟩:=h7 i af[i] (by simp[hi]);have mJ:i<ml.size:=by rw[tj.1,h5];exact hi
  have:es[i]?.map (·.key)=some ml[i]:=tj.2 i ml[i] (by simp[mJ]);rw[e1] at this;refine⟨b,by rw[Array.getElem?_eq_getElem mJ,<-Option.some.inj this],λp hp=>?_⟩;rw[List.getElem?_eq_getElem hi] at hp;rw[<-Option.some.inj hp];exact e2
 have vals:Vals (ml.toList.map λv=>match v with | .ref b=>V.ref b | _=>V.aj) ml.toList:=by
  have:∀l:List Value,(∀v∈l,∃b,v=Value.ref b)->Vals (l.map λv=>match v with | .ref b=>V.ref b | _=>V.aj) l:=by
   intro l
   induction l with
   | nil=>intro _;exact .nil
   | cons v r ih=>intro hv;obtain⟨b,rfl⟩:=hv v List.mem_cons_self;exact .cons rfl (ih λw hw=>hv w (List.mem_cons_of_mem _ hw))
  refine this _ λv hv=>?_;obtain⟨i,hi,rfl⟩:=List.getElem_of_mem hv;have mJ:i<af.length:=by
   have:i<ml.size:=by simpa using hi
   rw[tj.1,h5] at this;exact this
  obtain⟨b,e1,_⟩:=addr i mJ;refine⟨b,?_⟩;rw[<-Array.getElem?_toList,List.getElem?_eq_getElem hi] at e1;exact Option.some.inj e1
 have hlen:(ml.toList.map λv=>match v with | .ref b=>V.ref b | _=>V.aj).length=af.length:=by rw[List.length_map,Array.length_toList,tj.1,h5]
 refine⟨.ref s.heap.objs.size,_,I.laid (t':=tk) hk (Nat.le_refl _) (show aV X.prog X.w _ h' _ (.lst _) from ⟨by rw[hlen];exact h6,ml.toList,c',vals,by simpa using hD⟩),rfl,q _ _ I.fresh hlen λi p hp=>?_⟩;have hi:i<af.length:=(List.getElem?_eq_some_iff.mp hp).1;obtain⟨b,e1,e2⟩:=addr i hi;refine⟨b,?_,e2 p hp⟩;rw[List.getElem?_map,Array.getElem?_toList,e1];rfl
theorem BO:dz X (.builtin "len") (λxs H Q=>∃a af,xs=[V.ref a]/\Rd H a (.dT af)/\Q (.int (af.length:Nat)) H):=by intro pins s σ H xs us Q I r h;obtain⟨a,af,rfl,ha,q⟩:=h;obtain⟨u,rfl,ru⟩:=vals1 r;cases ru;obtain⟨od,es,ep,h1,h2,h3,h4,h5,h6,h7⟩:=lq I ha;refine Calls.call_function_entry PySem.kind_len PySem.plain_len PySem.entry_len (PySem.args_len1 _) (Jm h4 h1 h2 h3 (by rw[h5];rw[sizeLine_eq] at h6;omega) ?_);exact⟨.int (af.length:Nat),H,I.tok _,⟨_,by rw[h5]⟩,q⟩
theorem t9 {α β:Type}(f:α->β):∀(l:List α) (i:Nat),(l.map f).eraseIdx i=(l.eraseIdx i).map f
 | [],_=>rfl
 | _::_,0=>rfl
 | x::r,i+1=>by show f x::(r.map f).eraseIdx i=f x::(r.eraseIdx i).map f;rw[t9 f r i]
theorem E6 {prog:Program}{w:World}{κ:Type}[DecidableEq κ]{knd:HeapKind prog w κ}{A:Around}{E:Value->Sh->Prop}{s:Sh}{d b:Addr}{xs:List (κ×Addr×Value)}{j:Nat}{key:κ}{p:Addr×Value}{Q:Option DictEntry->Sh->Prop}(hu:knd.room A)(Bd:knd.is s.heap key b)
 (hm:s.heap.DictOfH knd d xs) (hj:xs[j]?=some (key,p)) (hz:xs.length<=sizeLine)
 (hQ:∀h',h'.DictOfH knd d (xs.eraseIdx j)->Heap.SameBut d s.heap h'->Q (some (entryOfKey knd (key,p))) { s with heap:=h',toks:=s.toks+knd.draws key }):wpAny (model prog w) A (Builtin.Dict.takeOut d (.ref b)) Q E s:=by
 obtain⟨o,es,ep,ho,hc,hd,he,his,hn⟩:=hm;unfold Builtin.Dict.takeOut
 try with_reducible refine wpAny_holding ?_
 refine wpAny_bind (knd.pyHash hu Bd (wpAny_bind (wpAny_dictFind_heap (s:={ s with toks:=s.toks+knd.draws key }) hu Bd ho hd he his hn (λno=>absurd hj (no j p)) λi q hi=>?_)));have e:i=j:=idxH_unique hn hi hj;subst e;refine wpAny_bind (wpAny_dictEntries (s:={ s with toks:=s.toks+knd.draws key }) ho hd ?_);rw[entry_at he i,hj];refine wpAny_bind (wpAny_updateDictKeys (hz:=by have:=size_of_entries he;omega) (s:={ s with toks:=s.toks+knd.draws key }) ho hd (wpAny_pure (hQ _ ⟨_,_,ep+1,Heap.get?_update_self _ ho (Obj.isFreed_of_dict (Obj.data_mapDictKeys hd _)),hc.mapDictKeys _,Obj.data_mapDictKeys hd _,?_,λx hx=>?_,?_⟩ (Heap.SameBut.update ..))))
 .have mJ:i<es.size:=by rw[size_of_entries he];exact(List.getElem?_eq_some_iff.mp hj).1
  rw[Array.eraseIdxIfInBounds,dif_pos mJ];simp[he,t9]
 .exact knd.keeps (his x (List.mem_of_mem_eraseIdx hx)) ho hd (Heap.SameBut.update ..)
 .exact hn.sublist ((List.eraseIdx_sublist _ _).map _)
end
section
variable {κ:Type}[DecidableEq κ]
theorem pB:∀{af:List (κ×V)} {j:Nat} {k:κ} {v:V},(af.map (·.1)).Nodup->af[j]?=some (k,v)->dA af k=af.eraseIdx j
 | [],_,_,_,_,h=>by simp at h
 | p::r,0,k,v,nd,h=>by
  have e:p=(k,v):=by simpa using h
  subst e;have nd:(k::r.map (·.1)).Nodup:=nd;rw[B1 rfl,vN (List.nodup_cons.mp nd).1];rfl
 | p::r,j+1,k,v,nd,h=>by
  have nd:(p.1::r.map (·.1)).Nodup:=nd;have h:r[j]?=some (k,v):=by simpa using h
  have ne:¬p.1=k:=λe=>(List.nodup_cons.mp nd).1 (e ▸ List.mem_map.mpr ⟨(k,v),List.mem_of_getElem? h,rfl⟩);rw[tV ne,pB (List.nodup_cons.mp nd).2 h];rfl
theorem yE {af:List (κ×V)}{k:κ}{v:V}(h:cX af k=some v):∃j:Nat,af[j]?=some (k,v):=by unfold cX at h;obtain⟨p,hp,e⟩:=Option.map_eq_some_iff.mp h;have h1:=List.find?_some hp;have h2:=List.mem_of_find?_eq_some hp;obtain⟨j,hj,e2⟩:=List.getElem_of_mem h2;refine⟨j,?_⟩;rw[List.getElem?_eq_getElem hj,e2];have:p.1=k:=of_decide_eq_true h1;rw[<-this,<-e]
end
theorem nz {α β:Type}{F:α->β->Prop}:∀{l:List α} {m:List β} (i:Nat),Paired F l m->Paired F (l.eraseIdx i) (m.eraseIdx i)
 | _,_,_,.nil=>.nil
 | _,_,0,.cons _ t=>t
 | _,_,i+1,.cons h t=>.cons h (nz i t)
theorem ua {α β:Type}{F:α->β->Prop}:∀{l:List α} {m:List β} {i:Nat} {x:α},Paired F l m->l[i]?=some x->∃y,m[i]?=some y/\F x y
 | _,_,_,_,.nil,h=>by simp at h
 | _,b::_,0,x,.cons (a:=a) h _,e=>⟨b,by simp,by
  have e:a=x:=by simpa using e
  rw[<-e];exact h⟩
 | _,_,i+1,x,.cons _ t,e=>by obtain⟨y,e1,e2⟩:=ua (i:=i) (x:=x) t (by simpa using e);exact⟨y,by simpa using e1,e2⟩
section
variable {X:Cx}{pins:List (Addr×Obj)}{σ:St}{H:Hp}{s:Sh}{a b:Addr}{af:List (List Key×V)}{k:List Key}{A:Around}{E:Value->Sh->Prop}
theorem yO {xs:List (List Key×Addr×Value)}:∀{af:List (List Key×V)} {xs:List (List Key×Addr×Value)},KT H af xs->af.map (·.1)=xs.map (·.1)
 | _,_,.nil=>rfl
 | _,_,.cons h t=>by rw[List.map_cons,List.map_cons,h.1,yO (xs:=[]) t]
theorem y0 {v:V}{Q:Option DictEntry->Sh->Prop}(hu:A.units<cLine)(I:Inv X pins σ H s)(e:H a=some (.dT af))(eb:H b=some (.tup (k.map kV)))(l:cX af k=some v)
 (h:∀en s',Inv X pins σ (upd H a (.dT (dA af k))) s'->RelV v en.val->Q (some en) s') (hr:(tupleKind (aR X.prog X.w)).room A):wpAny (model X.prog X.w) A (Builtin.Dict.takeOut a (.ref b)) Q E s:=by
 obtain⟨z,hd,xs,rel,dd⟩:=qY I.aw e;obtain⟨j,hj⟩:=yE l;obtain⟨q,hq,q1,q2,q3⟩:=ua rel hj;have nd:(af.map (·.1)).Nodup:=by obtain⟨_,_,_,_,_,_,_,_,n⟩:=dd;rw[yO (xs:=xs) rel];exact n
 obtain⟨qk,qa,qv⟩:=q;cases q1;refine E6 (j:=j) hr (iU I.aw eb) dd hq (by rw[<-Paired.length rel];exact z) λh' mH hs=>?_;obtain⟨o,es,ep,ho,h2,h3,h4,_,h5⟩:=mH;refine h _ _ (kU (t':=s.toks+(tupleKind (aR X.prog X.w)).draws k) I (by rw[e];exact True.intro) hs ⟨o,ho⟩ ⟨?_,hd,xs.eraseIdx j,?_,o,es,ep,ho,h2,h3,h4,h5⟩) q3
 .exact Nat.le_trans (wI af k) z
 .rw[pB nd hj];refine KT.keeps (nz j rel) λc ys ec=>?_;rw[ax (ib ec e (λz=>nomatch z))];exact ec
theorem ML {v:V}{Q:Unit->Sh->Prop}(hu:A.units+2<cLine)(I:Inv X pins σ H s)(e:H a=some (.dT af))(eb:H b=some (.tup (k.map kV)))(l:cX af k=some v)(h:∀s',Inv X pins σ (upd H a (.dT (dA af k))) s'->Q () s'):
 wpAny (model X.prog X.w) A (delItem (.ref a) (.ref b)) Q E s:=by
 obtain⟨z,hd,xs,rel,dd⟩:=qY I.aw e;refine wpAny_delItem_slot dd.typeIs (by decide) PySem.F.slot_dict_delitem (wpAny_call_entry PySem.F.slot_dict_delitem dd.typeIs PySem.F.entry_dict_delitem ?_ (PySem.F.args_dict_delitem_2 _ _));unfold Builtin.«dict.__delitem__»;refine wpAny_bind ?_;unfold Builtin.Dict.dictSlotArgs;refine wpAny_bind (wpAny_notOrdered_dict dd.typeIs ?_);show wpAny _ _ (pure (Value.ref a,Value.ref b)) _ _ s;refine wpAny_pure ?_;show wpAny _ _ (Builtin.Dict.takeOut a (.ref b) >>= _) _ _ s;refine wpAny_bind (y0 (by rw[in1_units];omega) I e eb l (λen s' I' r=>?_) (tupleKind_room_in1 (by omega)));exact wpAny_bind (wpAny_letGo (wpAny_pure ⟨.none,rfl,h s' I'⟩))
theorem Lj {v:V}{Q:Value->Sh->Prop}(hu:A.units+2<cLine)(I:Inv X pins σ H s)(e:H a=some (.dT af))(eb:H b=some (.tup (k.map kV)))(l:cX af k=some v)
 (h:∀w' s',Inv X pins σ (upd H a (.dT (dA af k))) s'->RelV v w'->Q w' s'):wpAny (model X.prog X.w) A (call (.builtin "dict.pop") [.ref a,.ref b]) Q E s:=by
 obtain⟨z,hd,xs,rel,dd⟩:=qY I.aw e;refine wpAny_call_entry PySem.F.slot_dict_pop dd.typeIs PySem.F.entry_dict_pop ?_ (PySem.F.args_dict_pop_2 _ _);unfold Builtin.«dict.pop»;refine wpAny_bind ?_;unfold Builtin.Dict.keyAndDefault;refine wpAny_bind (wpAny_notOrdered_dict dd.typeIs ?_);show wpAny _ _ (pure (a,Value.ref b,none)) _ _ s;refine wpAny_pure ?_;obtain⟨od,es,ep,h1,h2,h3,h4,h5,h6,h7⟩:=lq I (.inl e);have ne:es.isEmpty=false:=by obtain⟨j,hj⟩:=yE l;have:=(List.getElem?_eq_some_iff.mp hj).1;rw[Array.isEmpty_eq_false_iff];intro z;rw[z] at h5;simp at h5;omega
 simp only[show (keyPart (Value.ref b)).isSome=false from rfl,Bool.false_eq_true,if_false];refine wpAny_bind (wpAny_dictEntries h1 h3 (wpAny_bind (wpAny_pure ?_)));simp only[ne,Bool.false_eq_true,if_false];refine wpAny_bind (y0 (by rw[in1_units];omega) I e eb l (λen s' I' r=>?_) (tupleKind_room_in1 (by omega)));simp only[Option.isNone_some,Bool.false_eq_true,if_false];exact wpAny_bind (wpAny_letGo (wpAny_pure ⟨en.val,rfl,h _ s' I' r⟩))
end
def Mv (td ty:TE):TE:=λσ H Q=>td σ H λx H1=>∃a,x = .ref a/\L3 H1 a/\ty σ H1 λy H2=>∃b af k v,y = .ref b/\H2 a=some (.dT af)/\H2 b=some (.tup (k.map kV))/\cX af k=some v/\Q v (upd H2 a (.dT (dA af k)))
section
variable {X:Cx}{o i e:Expr}{td ty:TE}{pos Be apos dU:Pos}
theorem EB (hu:X.A.units+2<cLine)(ho:PE X o td)(he:PE X e ty)(m:M1 X o "pop" apos e dU):PE X (.Call (.Attribute o "pop" apos) [e] [] dU) (Mv td ty):=by intro pins s σ H Q I h;refine wpAny_Call_method m.base m.few m.line PySem.F.plainAttrs_dict PySem.F.slot_dict_pop PySem.F.type_dict_pop (aK (ho pins s σ H _ I h) λu s1 ⟨x,H1,I1,rx,a,ex,d,q1⟩=>?_);subst ex;obtain rfl:u=Value.ref a:=rx;obtain⟨t1,t2,_⟩:=C4 I1 d;refine⟨t1,t2,?_⟩;rw[m.trees];refine Calls.callWith_builtin rfl (Calls.evalArgs_plain (Calls.spliced_cons (aK (he pins s1 σ H1 _ I1 q1) λiv s2 ⟨y,H2,I2,ry,b,af,k,v,ey,ea,eb,l,q2⟩=>Calls.spliced_nil ?_)));subst ey;obtain rfl:iv=Value.ref b:=ry;exact Lj hu I2 ea eb l λw' s3 I3 rw'=>⟨v,_,I3,rw',q2⟩
end
section
variable {X:Cx}{pins:List (Addr×Obj)}{σ:St}{H:Hp}{s:Sh}{d:Addr}{od:Obj}{af:List (List Key×V)}
theorem Inv.freeze (I:Inv X pins σ H s)(e:H d=some (.dT af))(he:s.heap.get? d=some od):Inv X pins σ (upd H d (.bQ od (.dT af))) s:=by
 have nn:∀b,H b=none->b≠d:=λb n z=>by rw[z,e] at n;cases n
 have ia:∀{b:Addr} {o:HO},aV X.prog X.w H s.heap b o->aV X.prog X.w (upd H d (.bQ od (.dT af))) s.heap b o:=λ{b o} x=>
  x.ia (λ_ _ _ q=>q) (λc q=>by rw[ax (ib q e (λz=>nomatch z))];exact q) λc xs q=>by rw[ax (ib q e (λz=>nomatch z))];exact q
 refine⟨I.ok,I.os,I.bare,⟨I.base.keep,I.base.slot,λb ob q n x=>?_,I.base.there,λb xs q=>?_,λb ob u q=>?_,λb ps q=>?_⟩,I.loc,I.cell,?_,λy c q=>?_,λp q=>?_,λb u q=>?_,I.len⟩
 .rw[ax (nn b (I.base.free b ob q n x))];exact I.base.free b ob q n x
 .rw[ax (ib (I.base.dS b xs q) e (λz=>nomatch z))];exact I.base.dS b xs q
 .rw[ax (ib (I.base.da b ob u q) e (λz=>nomatch z))];exact I.base.da b ob u q
 .obtain⟨mr,q'⟩:=I.base.jl b ps q;exact⟨mr,by rw[ax (ib q' e (λz=>nomatch z))];exact q'⟩
 .rw[ax (nn _ I.free)];exact I.free
 .rw[ax (nn _ (I.eR y c q))];exact I.eR y c q
 .obtain⟨h1,h2,h3,h4,h5⟩:=I.pin p q;exact⟨h1,by rw[ax (nn _ h2)];exact h2,h3,h4,h5⟩
 .by_cases hb:b=d
  .subst hb;rw[az] at q;cases q;exact⟨he,ia (I.aw _ _ e)⟩
  .rw[ax hb] at q;exact ia (I.aw b u q)
theorem Inv.wH (I:Inv X pins σ H s)(e:H d=some (.bQ od (.dT af)))(n0:∀o u,X.H₀ d≠some (.bQ o u)):Inv X pins σ (upd H d (.dT af)) s:=by
 have nn:∀b,H b=none->b≠d:=λb n z=>by rw[z,e] at n;cases n
 have ia:∀{b:Addr} {o:HO},aV X.prog X.w H s.heap b o->aV X.prog X.w (upd H d (.dT af)) s.heap b o:=λ{b o} x=>
  x.ia (λ_ _ _ q=>q) (λc q=>by rw[ax (ib q e (λz=>nomatch z))];exact q) λc xs q=>by rw[ax (ib q e (λz=>nomatch z))];exact q
 refine⟨I.ok,I.os,I.bare,⟨I.base.keep,I.base.slot,λb ob q n x=>?_,I.base.there,λb xs q=>?_,λb ob u q=>?_,λb ps q=>?_⟩,I.loc,I.cell,?_,λy c q=>?_,λp q=>?_,λb u q=>?_,I.len⟩
 .rw[ax (nn b (I.base.free b ob q n x))];exact I.base.free b ob q n x
 .rw[ax (ib (I.base.dS b xs q) e (λz=>nomatch z))];exact I.base.dS b xs q
 .have hb:b≠d:=λz=>by rw[z] at q;exact n0 _ _ q
  rw[ax hb];exact I.base.da b ob u q
 .obtain⟨mr,q'⟩:=I.base.jl b ps q;exact⟨mr,by rw[ax (ib q' e (λz=>nomatch z))];exact q'⟩
 .rw[ax (nn _ I.free)];exact I.free
 .rw[ax (nn _ (I.eR y c q))];exact I.eR y c q
 .obtain⟨h1,h2,h3,h4,h5⟩:=I.pin p q;exact⟨h1,by rw[ax (nn _ h2)];exact h2,h3,h4,h5⟩
 .by_cases hb:b=d
  .subst hb;rw[az] at q;cases q;exact ia (I.aw _ _ e).2
  .rw[ax hb] at q;exact ia (I.aw b u q)
end
def NF (H0:Hp)(te:TE):TE:=λσ H Q=>te σ H λv H'=>∃d o af,H' d=some (.bQ o (.dT af))/\(∀o u,H0 d≠some (.bQ o u))/\Q v (upd H' d (.dT af))
theorem Jw {X:Cx}{e:Expr}{te:TE}(h:PE X e te):PE X e (NF X.H₀ te):=λpins s σ H Q I q=>
 aK (h pins s σ H _ I q) λu s1 ⟨v,H1,I1,r,d,o,af,e1,n0,q1⟩=>⟨v,_,I1.wH e1 n0,r,q1⟩
def NG (H0:Hp)(t:TS):TS:=λD σ H=>t { D with nx:=λσ' H'=>∃d o af,H' d=some (.bQ o (.dT af))/\(∀o u,H0 d≠some (.bQ o u))/\D.nx σ' (upd H' d (.dT af)) } σ H
theorem yZ {X:Cx}{st:Stmt}{t:TS}(h:PS X st t):PS X st (NG X.H₀ t):=λpins s σ H D I q=>
 aK (h pins s σ H _ I q) λf s1 z=>by
  cases f with
  | next=>obtain⟨σ',H',I',d,o,af,e1,n0,q1⟩:=z;exact⟨σ',_,I'.wH e1 n0,q1⟩
  | brk=>exact z
  | cont=>exact z
  | ret u=>exact z
def Lr (d:Addr)(od:Obj)(af:List (List Key×V)):It:=
 ⟨λi H=>H d=some (.bQ od (.dT af))/\i<af.length,λi H x H'=>H'=H/\∃b p,af[i]?=some p/\x = .ref b/\H b=some (.tup (p.1.map kV)),λi H=>H d=some (.bQ od (.dT af))/\af.length<=i⟩
theorem CM {P:Program}{w:World}{K:Fg}{tg:Expr}{d:Addr}{od:Obj}{es:Array DictEntry}{ep:Nat}{af:List (List Key×V)}(it:Addr)(fg:od.data = .dict es ep):
 Turn P w K tg (Lr d od af) [it] it (λi h=>h.IsKeyIter it d i es.size ep) where
 mem:=by simp
 obj:=λi h st b hb=>by
  have e:b=it:=by simpa using hb
  subst e;obtain⟨o,e,c,q⟩:=st;exact⟨o,e,λv z=>by rw[q] at z;cases z⟩
 keep:=λi h h' st k=>st.at λo e=>k it (by simp) o e
 item:=by
  intro X hP hw hK hc i pins s σ H E I hf st hg;subst hP hw hK;obtain⟨hd,hi⟩:=hg;obtain⟨f0,f1,f2,f3,f4,f5⟩:=hf it (by simp);obtain⟨od',Dv,Dw,h1,h2,h3,h4,h5,h6,h7⟩:=lq I (.inr ⟨od,hd⟩);have h0:s.heap.get? d=some od:=(I.aw d _ hd).1;rw[h0] at h1;cases h1;rw[fg] at h3;cases h3;obtain⟨b,e1,e2⟩:=h7 i af[i] (by simp[hi]);have mJ:i<es.size:=by rw[h5];exact hi
  refine xt st h0 fg rfl mJ λh' jq sb=>?_;have I1:Inv X pins σ H { s with heap:=h' }:=I.turned (t':=s.toks) (λb o hb e=>(sb.2 b hb).trans e) f0 f1 f3 f4 f5;obtain⟨o,e,c,q⟩:=id jq;have ek:es[i].key = .ref b:=by rw[Array.getElem?_eq_getElem mJ] at e1;exact Option.some.inj e1
  refine⟨_,rfl,?_⟩;rw[ek];exact rp (s:={ s with heap:=h' }) e c q (by decide) ⟨.ref b,H,I1,rfl,⟨rfl,b,af[i],by simp[hi],rfl,e2⟩,jq,λb hb=>(hf b hb).1⟩
 done:=by intro X hP hw hK hc i pins s σ H E I hf st hg;subst hP hw hK;obtain⟨hd,hi⟩:=hg;obtain⟨f0,f1,f2,f3,f4,f5⟩:=hf it (by simp);obtain⟨od',Dv,Dw,h1,h2,h3,h4,h5,h6,h7⟩:=lq I (.inr ⟨od,hd⟩);have h0:s.heap.get? d=some od:=(I.aw d _ hd).1;rw[h0] at h1;cases h1;rw[fg] at h3;cases h3;exact next_end (I.ok.hd hc) st h0 fg rfl (by rw[h5];exact hi) λh' eb=>⟨rfl,I.turned (t':=s.toks) (λb o hb e=>eb b o hb e) f0 f1 f3 f4 f5⟩
 self:=λ_ _ _ _ _ st h=>wpAny_pyIter_keyiter st h
section
variable {X:Cx}{pos:Pos}
def Nl (i j k:Nat)(ta:TA):TS:=λD σ H=>ta σ H λvs H1=>∃v w z,vs=[v,w,z]/\D.nx (((σ.set k (some z)).set j (some w)).set i (some v)) H1
theorem HV {i j k:Nat}{x y z:Str}{a b c:Expr}{ta:TA}{px py pz pt:Pos}{kt k2 xy}(hc:X.calm=true)(hN:X.N.Nodup)(hi:X.N[i]?=some x)(hj:X.N[j]?=some y)(hk:X.N[k]?=some z)
 (hx:X.env.scope.names.lookup x=some .local) (hy:X.env.scope.names.lookup y=some .local) (hz:X.env.scope.names.lookup z=some .local) (ha:PA X [a,b,c] ta)
 (hw:swappedStores [.Tuple [.Name x px,.Name y py,.Name z pz] kt pt] (.Tuple [a,b,c] k2 xy) X.env=pure (some [x,y,z]))
 (hs:swapsWithSole [.Tuple [.Name x px,.Name y py,.Name z pz] kt pt] (.Tuple [a,b,c] k2 xy) pos.line X.env=pure false:=by rfl):
 PS X (.Assign [.Tuple [.Name x px,.Name y py,.Name z pz] kt pt] (.Tuple [a,b,c] k2 xy) pos) (Nl i j k ta):=by
 intro pins s σ H D I h;rw[exec_Assign_arm];refine wpAny_bind (wpAny_standAt ?_);rw[hs];refine wpAny_bind (wpAny_pure ?_);rw[if_neg (by decide)];refine wpAny_bind (Tuple_ (aK (ha _ pins s σ H _ I h) λus s1 ⟨vs,H1,I1,r1,q1⟩=>?_));obtain⟨v,w,z',e1,q1⟩:=q1;subst e1;obtain⟨u1,u2,u3,rfl,rv,rw',rz⟩:∃u1 u2 u3,us=[u1,u2,u3]/\RelV v u1/\RelV w u2/\RelV z' u3:=by
  cases r1 with
  | cons p q=>
   cases q with
   | cons p' q'=>
    cases q' with
    | cons p2 q2=>cases q2;exact⟨_,_,_,rfl,p,p',p2⟩
 refine wpAny_newObj_type ?_ (by show 3<=sizeLine;decide);have I2:Inv X pins σ H1 { s1 with heap:=s1.heap.push { cls:=.type "tuple",data:=.seq [u1,u2,u3].toArray } }:=I1.kept (t':=s1.toks) λb o e=>Heap.get?_push_of_some _ e;rw[hw];refine wpAny_bind (wpAny_pure ?_);show wpAny (model X.prog X.w) X.A (do rule "assign.swapped-stores";let items <-unpackItems (.ref s1.heap.objs.size) 3 none;assignInOrder [λv=>bindName X.env z v,λv=>bindName X.env y v,λv=>bindName X.env x v] items.reverse;pure Flow.next) _ _ _;refine wpAny_bind (wpAny_rule (wpAny_bind (unpackItems_tuple (items:=#[u1,u2,u3]) (I.ok.hd hc) (IsTup.new s1.heap _) λh' xA=>?_)));have I3:=I2.kept (h':=h') (t':=s1.toks) λb o e=>xA b o (Nat.ne_of_lt (Heap.lt_size e)) e;show wpAny _ _ (assignInOrder [λv=>bindName X.env z v,λv=>bindName X.env y v,λv=>bindName X.env x v] [u3,u2,u1] >>= λ_=>pure Flow.next) _ _ _;refine wpAny_bind (assignInOrder_cons (wpAny_bindName (fK I3 hN hk (.inl hz) rz (λs2 I4=>?_) (.inr hz))));refine assignInOrder_cons (wpAny_bindName (fK I4 hN hj (.inl hy) rw' (λs3 I5=>?_) (.inr hy)));refine assignInOrder_cons (wpAny_bindName (fK I5 hN hi (.inl hx) rv (λs4 I6=>assignInOrder_nil (wpAny_pure ?_)) (.inr hx)));exact⟨_,H1,I6,q1⟩
end
inductive Kn where | aj | bl | int | str | tup | lst
def Kn.ty:Kn->String
 | .aj=>"NoneType" | .bl=>"bool" | .int=>"int" | .str=>"str" | .tup=>"tuple" | .lst=>"list"
def Kl:V->Kn->Bool
 | .aj,.aj=>true
 | .bl _,.bl=>true
 | .int _,.int=>true
 | .str _,.str=>true
 | .ref _,.tup=>true
 | .ref _,.lst=>true
 | _,_=>false
structure kA (K:Fg)(H:Hp)(v:V)(k:Kn):Prop where
 ty:gZ K H v (.type k.ty)
 sh:Kl v k=true
section
variable {K:Fg}{H:Hp}
theorem Ls:kA K H .aj .aj:=⟨.aj,rfl⟩
theorem NK (b:Bool):kA K H (.bl b) .bl:=⟨.bl b,rfl⟩
theorem JN (i:Int):kA K H (.int i) .int:=⟨.int i,rfl⟩
theorem Mx (x:Str):kA K H (.str x) .str:=⟨.str x,rfl⟩
theorem L6 {a:Addr}{xs:List V}(e:H a=some (.tup xs)):kA K H (.ref a) .tup:=⟨.tup e,rfl⟩
theorem K2 {a:Addr}{xs:List V}(e:H a=some (.lst xs)):kA K H (.ref a) .lst:=⟨.lst e,rfl⟩
end
def isInt:Kn->Bool | .int=>true | .bl=>true | _=>false
def JO:Kn->Bool | .bl=>true | _=>false
def isStr:Kn->Bool | .str=>true | _=>false
def isTup:Kn->Bool | .tup=>true | _=>false
def Gb:Kn->Bool | .lst=>true | _=>false
theorem Jf (K:Fg)(k:Kn):W.kitOne K (.type k.ty) (.type "int")=some (isInt k):=by cases k<;>with_unfolding_all rfl
theorem E3 (K:Fg)(k:Kn):W.kitOne K (.type k.ty) (.type "bool")=some (JO k):=by cases k<;>with_unfolding_all rfl
theorem Hv (K:Fg)(k:Kn):W.kitOne K (.type k.ty) (.type "str")=some (isStr k):=by cases k<;>with_unfolding_all rfl
theorem kit_tuple (K:Fg)(k:Kn):W.kitOne K (.type k.ty) (.type "tuple")=some (isTup k):=by cases k<;>with_unfolding_all rfl
theorem Ff (K:Fg)(k:Kn):W.kitOne K (.type k.ty) (.type "list")=some (Gb k):=by cases k<;>with_unfolding_all rfl
section
variable {X:Cx}
def Nn (K:Fg)(f:Kn->Bool)(T:String):List V->Hp->VK->Prop:=λxs H Q=>∃x k,xs=[x,.ty T]/\kA K H x k/\Q (.bl (f k)) H
theorem Bw {T:String}{f:Kn->Bool}(hk:∀k,W.kitOne X.K (.type k.ty) (.type T)=some (f k)):dz X (.builtin "isinstance") (Nn X.K f T):=by intro pins s σ H xs us Q I r h;obtain⟨x,k,rfl,kn,q⟩:=h;exact Ex pins s σ H _ us Q I r ⟨x,.ty T,_,.type T,_,rfl,rfl,λ_ z=>z,kn.ty,hk k,q⟩
end
end L2
namespace L2
open PySem
section
variable {M:Model}{A:Around}{E:Value->Sh->Prop}{s:Sh}
def Pq (h:Heap)(e:Addr)(vs:Array Value):Prop:=vs[1]?=some .none\/∃T oT ts,vs[1]?=some (.ref T)/\T≠e/\h.get? T=some oT/\oT.data = .fields ts/\ts[3]?=some .none
end
end L2
namespace L2
open PySem PySem.Spec PyProof.Rows
def kQ (P:Program)(w:World):ku:=λouter H s E e s'=>∃(a C:Addr) (dx:Option Addr) (H':Hp) (o:Obj) (vs:Array Value),e = .ref a/\s'.os=s.os/\AllBare s'.gens/\Un (lr outer) [] H H' s.heap s'.heap/\aL P w H' s'.heap /\
 s.heap.get? a=none/\H' a=none/\s'.heap.get? a=some o/\o.cls = .ref C/\o.dict=dx/\o.data = .fields vs/\vs[2]?=some .none/\Pq s'.heap a vs/\E (.ref C) dx H'
section
variable {X:Cx}{pins:List (Addr×Obj)}{σ:St}{H:Hp}{s:Sh}
end
section
variable {X:Cx}
end
abbrev TJ:=St->Hp->Str->(Str->Hp->Prop)->Prop
section
variable {X:Cx}{pos:Pos}{e e1 e2:Expr}{es:List Expr}{te:TE}{t:TJ}
end
def Ah (qual:Str)(c:Addr):HO:=.ext λh=>h.CodeRec (.ref c) qual
def qR (H:Hp)(P:Addr)(qual:Str):Prop:=∃ps,H P=some (.gu ps)/\TriplesOk ps.toList/\∀pos cv,codeAmong pos ps.toList=some cv->∃c,cv = .ref c/\H c=some (Ah qual c)
def Ha (d:Addr)(H H':Hp):Prop:=∀b o,b≠d->H b=some o->H' b=some o
theorem qR.same {H H':Hp}{P:Addr}{q:Str}(x:qR H P q)(e:∀b o,H b=some o->H' b=some o):qR H' P q:=
 let ⟨ps,h1,h2,h3⟩:=x
 ⟨ps,e _ _ h1,h2,λpos cv h=>let ⟨c,e1,e2⟩:=h3 pos cv h;⟨c,e1,e _ _ e2⟩⟩
theorem qR.grown {H H':Hp}{P d:Addr}{q:Str}{od:HO}(x:qR H P q)(e:Ha d H H')(hd:H d=some od)(n1:∀ps,od ≠ .gu ps)(n2:∀c,od≠Ah q c):qR H' P q:=
 let ⟨ps,h1,h2,h3⟩:=x
 ⟨ps,e _ _ (λz=>by rw[z,hd] at h1;exact n1 _ (Option.some.inj h1)) h1,h2,λpos cv h=>let ⟨c,e1,e2⟩:=h3 pos cv h;⟨c,e1,e _ _ (λz=>by rw[z,hd] at e2;exact n2 _ (Option.some.inj e2)) e2⟩⟩
def p9 (mg:Str->Option Value)(base:Heap):Prop:=∃bm o,mg "__builtins__" = some (.ref bm)/\bm≠builtinsNs/\bm≠mainGlobals/\base.get? bm=some o/\o.cls = .type "module"/\o.dict=some builtinsNs/\o.data = .plain
section
variable {X:Cx}{pins:List (Addr×Obj)}{σ:St}{H:Hp}{s:Sh}
end
section
variable {X:Cx}{pins:List (Addr×Obj)}{σ:St}{H:Hp}{s:Sh}
end
end L2
namespace L2
open PySem
section
variable {prog:Program}{w:World}{A:Around}{E:Value->Sh->Prop}{s:Sh}
end
end L2
namespace L2
open PySem PySem.W
section
variable {prog:Program}{w:World}{A:Around}{E:Value->Sh->Prop}{s:Sh}{K:Frag}{x C:Addr}{ox:Obj}{odo:Option Obj}
end
end L2
namespace L2
open PySem PySem.Spec PyProof.Rows
section
variable {X:Cx}{pins:List (Addr×Obj)}{σ:St}{H:Hp}{s:Sh}
end
section
variable {X:Cx}
end
def ou (sc outer:Scope)(xs M:List Str):Bool:=
 (sc.kind == .function)&&sc.names.all (λp=>p.2 != NameKind.cell)&&xs.all (λx=>sc.names.lookup x==some NameKind.local)&&sc.names.all (λp=>p.2 != NameKind.local||sc.names.lookup p.1==some NameKind.local) &&
 sc.names.all (λp=>p.2 != NameKind.free||(outer.names.lookup p.1==some NameKind.cell||outer.names.lookup p.1==some NameKind.free))&&M.all (λy=>sc.names.lookup y != some NameKind.local)
structure jy (sc outer:Scope)(xs M:List Str):Prop where
 kind:sc.kind = .function
 lC:∀p∈sc.names,p.2≠NameKind.cell
 var:∀x∈xs,sc.names.lookup x=some NameKind.local
 locs:∀p∈sc.names,p.2=NameKind.local->sc.names.lookup p.1=some NameKind.local
 free:∀p∈sc.names,p.2=NameKind.free->outer.names.lookup p.1=some NameKind.cell\/outer.names.lookup p.1=some NameKind.free
 out:∀y∈M,sc.names.lookup y≠some NameKind.local
theorem jy.of {sc outer:Scope}{xs M:List Str}(h:ou sc outer xs M=true):jy sc outer xs M:=by
 unfold ou at h;simp only[Bool.and_eq_true,List.all_eq_true] at h;obtain⟨⟨⟨⟨⟨h1,h2⟩,h3⟩,h4⟩,h5⟩,h6⟩:=h;refine⟨eq_of_beq h1,λp hp=>by simpa using h2 p hp,λx hx=>eq_of_beq (h3 x hx),λp hp e=>?_,λp hp e=>?_,λy hy=>by simpa using h6 y hy⟩
 .have:=h4 p hp;rw[e] at this;simpa using this
 .have:=h5 p hp;rw[e] at this;simpa using this
def cS (X:Cx)(sc:Scope)(xs M:List Str)(C:Addr)(s:Sh)(H:Hp)(fp:List Addr):Cx:=
 { X with env:=compEnvC sc (cP X.env sc.names []) C X.env,N:=xs++M,s₀:=s,H₀:=H,outer:=X.stack,ex:=fp,fn:=λ_=>false,pn:=[],xe:=λ_ _=>False }
section
variable {X:Cx}{pins:List (Addr×Obj)}{σ:St}{H:Hp}{s:Sh}{sc:Scope}{xs M:List Str}{C:Addr}{fp:List Addr}
theorem y6 (I:Inv X pins σ H s)(ok:jy sc X.env.scope xs M)(hC:s.heap.objs.size<=C)(hf:∀b∈fp,eL X pins H b)(hl:∀b∈fp,b<s.heap.objs.size):(cS X sc xs M C s H fp).Ok where
 mod:=I.ok.mod
 kind:=ok.kind
 glob:=I.ok.glob
 blt:=I.ok.blt
 above:=hC
 inj:=λa b c h1 h2=>by
  rcases eI _ _ _ _ _ h1 with h1 | h1
  .cases h1
  rcases eI _ _ _ _ _ h2 with h2 | h2
  .cases h2
  exact I.ok.inj a b c h1 h2
 has:=λy hy=>by
  have hm:(y,NameKind.free)∈sc.names:=by
   rcases hy with hy | hy
   .exact cU ok.lC hy (.inl rfl)
   .exact cU ok.lC hy (.inr rfl)
  exact mh X.env sc.names [] y hm (I.ok.has y (ok.free _ hm rfl))
 zl:=λy c h=>by cases h
 hd:=I.ok.hd
 frames:=I.ok.frames
 Dt:=.inl rfl
 exf:=λb hb=>⟨Nat.ne_of_lt (Nat.lt_of_lt_of_le (hl b hb) hC),λy c h=>by
  rcases eI _ _ _ _ _ h with h | h
  .cases h
  .exact(hf b hb).2.2.2.2.1 y c h⟩
 bs:=I.bs
 pI:=Nat.le_trans I.ok.pI I.sz
 tf:=λb o e hb=>by
  rcases(hf b hb).2.2.2.1 with z | z
  .exact I.ok.tf b o e z
  .exact absurd (Nat.lt_of_lt_of_le (Heap.lt_size e) (Nat.le_trans I.ok.pI z)) (Nat.lt_irrefl _)
 xx:=λb hb nY=>by
  rcases List.mem_cons.mp (I.qJ b nY) with z | z
  .exact(hf b hb).2.1 z
  .exact(hf b hb).2.2.1 z
 eB:=I.stack
 uD:=I.zj
theorem E2 {s1:Sh}{m:Str->Option Value}(I:Inv X pins σ H s)(ok:jy sc X.env.scope xs M)(hM:∀(j:Nat) (y:Str),M[j]?=some y->(∃p∈sc.names,p.1=y)->X.N[j]?=some y)(hlen:M.length=X.N.length)(hC:s.heap.objs.size<=C)(hf:∀b∈fp,eL X pins H b)(hl:∀b∈fp,b<s.heap.objs.size)
 (hk:∀b o,s.heap.get? b=some o->s1.heap.get? b=some o) (hns:s1.heap.Ns C m) (si:s1.os=s.os) (hg:s1.gens=s.gens):Inv (cS X sc xs M C s H fp) [] (List.replicate xs.length none++σ) H s1 where
 ok:=y6 I ok hC hf hl
 os:=si
 bare:=by rw[hg];exact I.bare
 base:=Un.kept hk
 loc:=⟨m,hns,λi y v h1 h2 h3=>by
  rcases Nat.lt_or_ge i xs.length with hi | hi
  .rw[List.getElem?_append_left (by simpa using hi),List.getElem?_replicate,if_pos hi] at h2;cases h2
  .obtain⟨j,rfl⟩:∃j,i=xs.length+j:=⟨i-xs.length,by omega⟩;have h1:M[j]?=some y:=by
    have h1:(xs++M)[xs.length+j]?=some y:=h1
    rwa [List.getElem?_append_right (by omega),Nat.add_sub_cancel_left] at h1
   have h2:σ[j]?=some (some v):=by
    rwa [List.getElem?_append_right (by simp),List.length_replicate,Nat.add_sub_cancel_left] at h2
   have hm:(y,NameKind.free)∈sc.names:=by
    rcases h3 with h3 | h3 | h3
    .exact absurd (fA h3) (ok.out y (List.mem_of_getElem? h1))
    .exact cU ok.lC h3 (.inl rfl)
    .exact cU ok.lC h3 (.inr rfl)
   obtain⟨m0,hn0,hl0⟩:=I.loc;have ko:=ok.free _ hm rfl;obtain⟨u,r,lk⟩:=hl0 j y v (hM j y h1 ⟨_,hm,rfl⟩) h2 (.inr ko);refine⟨u,r,.inr ⟨?_,?_⟩⟩
   .rcases h3 with h3 | h3 | h3
    .exact absurd (fA h3) (ok.out y (List.mem_of_getElem? h1))
    .exact .inl h3
    .exact .inr h3
   .rcases lk with⟨k,_⟩|⟨_,c,hc,z⟩
    .have k:X.env.scope.names.lookup y=some .local:=k;rcases ko with q | q
     .rw[q] at k;cases k
     .rw[q] at k;cases k
    .obtain⟨c',mG⟩:=mh X.env sc.names [] y hm ⟨c,hc⟩;have e:c'=c:=by
      rcases eI _ _ _ _ _ mG with q | q
      .cases q
      .rw[hc] at q;exact(Option.some.inj q).symm
     exact⟨c,e ▸ mG,z.keeps hk⟩⟩
 cell:=λy c h=>by
  rcases eI _ _ _ _ _ h with h | h
  .cases h
  .obtain⟨v,z⟩:=I.cell y c h;exact⟨v,z.keeps hk⟩
 free:=I.aw.fresh hC
 eR:=λy c h=>by
  rcases eI _ _ _ _ _ h with h | h
  .cases h
  .exact I.eR y c h
 pin:=λp hp=>absurd (show p∈([]:List (Addr×Obj)) from hp) (by simp)
 aw:=I.aw.kept hk
 len:=by show (List.replicate xs.length none++σ).length=(xs++M).length;rw[List.length_append,List.length_append,List.length_replicate,hlen,I.len]
end
def Ts (H H':Hp):Prop:=∀b xs,H b=some (.tup xs)->H' b=some (.tup xs)
theorem Ts.refl (H:Hp):Ts H H:=λ_ _ h=>h
def ql:HO->Prop
 | .lst _ | .dK _ | .dT _=>True
 | _=>False
theorem aV.ql {P:Program}{w:World}{H H':Hp}{h h':Heap}{a:Addr}{o:HO}(x:aV P w H h a o)(g:ql o)(k:∀u,h.get? a=some u->h'.get? a=some u)(ht:Ts H H'):aV P w H' h' a o:=by
 cases o with
 | lst xs=>obtain⟨z,ai,n,r,e⟩:=x;exact⟨z,ai,n,r,k _ e⟩
 | dK af=>obtain⟨z,y,vs,r,ob,es,ep,e,c⟩:=x;exact⟨z,y,vs,r,ob,es,ep,k _ e,c⟩
 | dT af=>obtain⟨z,y,xs,r,ob,es,ep,e,c⟩:=x;exact⟨z,y,xs,Paired.nS r λp q z=>⟨z.1,ht _ _ z.2.1,z.2.2⟩,ob,es,ep,k _ e,c⟩
 | _=>exact g.elim
structure AccAt (X:Cx)(pins:List (Addr×Obj))(D:Addr)(o:HO)(H:Hp)(s:Sh):Prop where
 fp:eL X pins H D
 young:X.s₀.heap.objs.size<=D
 ok:aV X.prog X.w H s.heap D o
 kind:ql o
theorem AccAt.obj {X:Cx}{pins:List (Addr×Obj)}{D:Addr}{o:HO}{H:Hp}{s:Sh}(A:AccAt X pins D o H s):∃ob,s.heap.get? D=some ob/\∀v,ob.data ≠ .cell v:=by
 have x:=A.ok;have g:=A.kind;cases o with
 | lst xs=>obtain⟨_,_,_,_,e⟩:=x;exact⟨_,e,λv z=>nomatch z⟩
 | dK af=>obtain⟨_,_,_,_,ob,_,_,e,_,d,_⟩:=x;exact⟨_,e,λv z=>by rw[d] at z;cases z⟩
 | dT af=>obtain⟨_,_,_,_,ob,_,_,e,_,d,_⟩:=x;exact⟨_,e,λv z=>by rw[d] at z;cases z⟩
 | _=>exact g.elim
section
variable {X:Cx}{pins:List (Addr×Obj)}{D:Addr}{o:HO}{H H':Hp}{s s':Sh}{σ σ':St}
theorem AccAt.pin (A:AccAt X pins D o H s)(I:Inv X pins σ H s){ob:Obj}(e:s.heap.get? D=some ob)(d:∀v,ob.data ≠ .cell v):Inv X (pins++[(D,ob)]) σ H s:=
 I.oF λp hp=>(List.mem_append.mp hp).elim (λz=>I.pin p (List.mem_append_right _ z)) λz=>by rw[List.mem_singleton.mp z];exact⟨e,A.fp.1,A.fp.2.1,A.fp.2.2.1,d⟩
theorem eL.to {b:Addr}(f:eL X pins H b)(n:H' b=none):eL X pins H' b:=⟨n,f.2⟩
theorem AccAt.back {ob:Obj}{pl:List (Addr×Obj)}(A:AccAt X pins D o H s)(e:s.heap.get? D=some ob)(I:Inv X pl σ' H' s')(hp:(D,ob)∈pl)(ts:Ts H H'):AccAt X pins D o H' s':=by obtain⟨e1,n1,_⟩:=I.pin (D,ob) (List.mem_append_right _ hp);exact⟨A.fp.to n1,A.young,A.ok.ql A.kind (λu h=>by rw[e] at h;cases h;exact e1) ts,A.kind⟩
theorem AccAt.more {pl:List (Addr×Obj)}(A:AccAt X pins D o H s)(h:∀p∈pl,p.1≠D):AccAt X (pins++pl) D o H s:=
 ⟨⟨A.fp.1,A.fp.2.1,A.fp.2.2.1,A.fp.2.2.2.1,A.fp.2.2.2.2.1,λp hp=>by
  rw[<-List.append_assoc] at hp;rcases List.mem_append.mp hp with z | z
  .exact A.fp.2.2.2.2.2 p z
  .exact h p z⟩,A.young,A.ok,A.kind⟩
theorem AccAt.less {pl:List (Addr×Obj)}(A:AccAt X (pins++pl) D o H s):AccAt X pins D o H s:=
 ⟨⟨A.fp.1,A.fp.2.1,A.fp.2.2.1,A.fp.2.2.2.1,A.fp.2.2.2.2.1,λp hp=>A.fp.2.2.2.2.2 p (by rw[<-List.append_assoc];exact List.mem_append_left _ hp)⟩,A.young,A.ok,A.kind⟩
end
abbrev TB (α:Type):=α->St->Hp->(α->St->Hp->Prop)->Prop
def PB {α:Type}(X:Cx)(D:Addr)(ob:α->HO)(m:Sem Unit)(t:TB α):Prop:=
 ∀(pins:List (Addr×Obj)) (s:Sh) (σ:St) (H:Hp) (a:α) (Q:α->St->Hp->Prop),Inv X pins σ H s->AccAt X pins D (ob a) H s->t a σ H Q ->
  wpAny (model X.prog X.w) X.A m (λ_ s'=>∃a' σ' H',Inv X pins σ' H' s'/\AccAt X pins D (ob a') H' s'/\Q a' σ' H') X.xe s
section
variable {X:Cx}{D:Addr}
def Gu (te:TE):TB (List V):=λys σ H Q=>te σ H λy H'=>ys.length<sizeLine/\Ts H H'/\Q (ys++[y]) σ H'
theorem IH {elt:Expr}{te:TE}(he:PE X elt te):PB X D HO.lst (eval elt X.env >>= λx=>call (.builtin "list.append") [.ref D,x] >>= λ_=>pure ()) (Gu te):=by
 intro pins s σ H ys Q I A h;obtain⟨ob,e,d⟩:=A.obj;refine wpAny_bind (aK (he _ s σ H _ (A.pin I e d) h) λu s1 ⟨y,H1,I1,r1,hz,ts,q⟩=>?_);have A1:=A.back e I1 (List.mem_append_right _ (List.mem_singleton.mpr rfl)) ts;obtain⟨hl,ai,n,rv,e1⟩:=A1.ok;have I1':=I1.fL;refine wpAny_bind (append_at e1 (λh' lD hD'=>wpAny_pure ⟨ys++[y],σ,H1,?_,?_,q⟩) (by rw[List.size_toArray,<-rv.length];exact hl))
 .exact I1'.turned (t':=s1.toks) (it:=D) (λb o hb e=>(lD.2 b hb).trans e) A1.fp.1 A1.fp.2.1 A1.fp.2.2.2.1 A1.fp.2.2.2.2.1 A1.fp.2.2.2.2.2
 .exact⟨A1.fp,A1.young,⟨by rw[List.length_append,List.length_singleton];omega,ai++[u],n+1,rv.append (.cons r1 .nil),by rw[hD'];simp⟩,trivial⟩
end
def yF {α:Type}(J:It)(gt:TG)(tt:TT)(tb:TB α)(R:α->St->Hp->Prop)(a:α)(σ:St)(H:Hp):Prop:=
 ∃W:Nat->Nat->α->St->Hp->Prop,(∃m,W 0 m a σ H)/\∀i m a σ H,W i m a σ H ->
  (J.stop i H/\R a σ H)\/(J.go i H/\∃N:α->St->Hp->Prop,(∀a' σ' H',N a' σ' H'->∃m',m'<m/\W (i+1) m' a' σ' H') /\
    ∀x H',J.xB i H x H'->Ts H H'/\gt x σ H' λσ2 H2=>Ts H H2/\tt σ2 H2 λb H3=>Ts H H3/\if b=true then tb a σ2 H3 N else N a σ2 H3)
def m8 (X:Cx)(e:Expr)(d:Nat)(it D:Addr)(tg:Expr)(ifs:List Expr)(fH:Sem Unit):Prop:=∀(I:Nat->Sh->Prop) (R:Result->Sh->Prop),
 (∀n s,I n s->wpAny (model X.prog X.w) X.A (pyNext (.ref it)) (λr s₁=>match r with
   | none=>R (.ok .next) s₁
   | some v=>wpAny (model X.prog X.w) X.A (letOwnedTupleGo tg (.ref it) v) (λ_ s₂=>wpAny (model X.prog X.w) X.A (assign tg X.env v) (λ_ s₃=>
    wpAny (model X.prog X.w) X.A (forIn ifs true λc r=>if r=true then do let ok <-isTrue c X.env (eval c X.env);pure (ForInStep.yield ok) else pure (ForInStep.yield r)) (λok s₄=>
     if ok=true then wpAny (model X.prog X.w) X.A fH (λ_ s₅=>∃m,m<n/\I m s₅) (λ_ _=>False) s₄ else ∃m,m<n/\I m s₄) (λ_ _=>False) s₃) (λ_ _=>False) s₂) (λ_ _=>False) s₁) (λ_ _=>False) s) ->
 ∀n s,I n s->codeAny (model X.prog X.w) X.A (.compLoop e d (.ref it) (.ref D) X.env) R s
section
variable {X:Cx}{D:Addr}{α:Type}{ob:α->HO}{fH:Sem Unit}{tb:TB α}{gt:TG}{tt:TT}{J:It}{fp:List Addr}{it:Addr}{tn:Nat->Heap->Prop}{tg e:Expr}{d:Nat}{ifs:List Expr}{pins:List (Addr×Obj)}{s:Sh}{σ:St}{H:Hp}{a:α}{R:α->St->Hp->Prop}{q:Cx->Prop}
theorem Cr (hx:X.xe=λ_ _=>False)(L:m8 X e d it D tg ifs fH)(T:zP q X.prog X.w X.K tg J fp it tn)(hq:q X)(hD:D∉fp)(hG:PG X tg gt)(ht:PF X ifs tt)(hb:PB X D ob fH tb)
 (I:Inv X pins σ H s) (A:AccAt X pins D (ob a) H s) (st:tn 0 s.heap) (hf:∀b∈fp,eL X pins H b) (h:yF J gt tt tb R a σ H):
 codeAny (model X.prog X.w) X.A (.compLoop e d (.ref it) (.ref D) X.env) (λr s'=>r = .ok .next/\∃a' σ' H',Inv X pins σ' H' s'/\AccAt X pins D (ob a') H' s'/\R a' σ' H') s:=by
 obtain⟨W,⟨m0,w0⟩,turn⟩:=h;refine L (λn s'=>∃i a' σ' H',Inv X pins σ' H' s'/\AccAt X pins D (ob a') H' s'/\tn i s'.heap/\(∀b∈fp,H' b=none)/\W i n a' σ' H') _ ?_ m0 s ⟨0,a,σ,H,I,A,st,λb hb=>(hf b hb).1,w0⟩;rintro n s3 ⟨i,a3,σ3,H3,I3,A3,Dz,xC,w3⟩;obtain⟨o3,e3,d3⟩:=A3.obj;have I3':=A3.pin I3 e3 d3;have qw:∀{H':Hp},(∀b∈fp,H' b=none)->∀b∈fp,eL X (pins++[(D,o3)]) H' b:=λhn b hb=>by
  obtain⟨_,f1,f2,f3,f4,f5⟩:=hf b hb;refine⟨hn b hb,f1,f2,f3,f4,λp hp=>?_⟩;rw[<-List.append_assoc] at hp;rcases List.mem_append.mp hp with z | z
  .exact f5 p z
  .rw[List.mem_singleton.mp z];intro y;subst y;exact hD hb
 rcases turn i n a3 σ3 H3 w3 with⟨stop,qn⟩|⟨go,N,hN,step⟩
 .refine aK (T.done X rfl rfl rfl hq i _ s3 σ3 H3 _ I3' (qw xC) Dz stop) λr s4 ⟨hr,I4⟩=>?_;subst hr;exact⟨rfl,a3,σ3,H3,I4.fL,A3.back e3 I4 (List.mem_append_right _ (List.mem_singleton.mpr rfl)) (Ts.refl _),qn⟩
 .refine aK (T.item X rfl rfl rfl hq i _ s3 σ3 H3 _ I3' (qw xC) Dz go) λr s4 ⟨u,hr,h4⟩=>?_;subst hr;refine aK h4 λ_ s5 ⟨x,H5,I5,r5,y5,xD,fr5⟩=>?_;obtain⟨ts5,step⟩:=step x H5 y5;have I5':=I5.pinned (qw fr5) (T.obj _ _ xD);have mD:∀{l:List (Addr×Obj)},(D,o3)∈(pins++[(D,o3)])++l:=λ{l}=>List.mem_append_left _ (List.mem_append_right _ (List.mem_singleton.mpr rfl));have hg:=hG _ s5 σ3 H5 x u _ I5' r5 step;rw[hx] at hg;refine aK hg λ_ s6 ⟨σ6,H6,I6,ts6,q6⟩=>?_;have hte:=ht _ s6 σ6 H6 _ I6 q6;rw[hx] at hte;refine aK hte λb s7 ⟨H7,I7,ts7,q7⟩=>?_;have back:∀{pl:List (Addr×Obj)} {σ8:St} {H8:Hp} {s8:Sh},Inv X pl σ8 H8 s8->(∀p∈la fp s5.heap,p∈pl)->tn (i+1) s8.heap/\∀b∈fp,H8 b=none:=λ{pl σ8 H8 s8} I8 hs=>by refine⟨T.keep _ _ _ xD λb hb o e=>(I8.pin (b,o) (List.mem_append_right _ (hs _ (jx hb e)))).1,λb hb=>?_⟩;obtain⟨o,e,d⟩:=T.obj _ _ xD b hb;exact(I8.pin (b,o) (List.mem_append_right _ (hs _ (jx hb e)))).2.1
  have A7:=A3.back e3 I7 mD ts7;cases b with
  | false=>simp only[Bool.false_eq_true,if_false] at q7 ⊢;obtain⟨m',hm,w7⟩:=hN _ _ _ q7;obtain⟨b1,b2⟩:=back I7 λp hp=>List.mem_append_right _ hp;exact⟨m',hm,i+1,a3,σ6,H7,I7.fL.fL,A7,b1,b2,w7⟩
  | true=>
   simp only[if_true] at q7 ⊢;have I7':Inv X (pins++la fp s5.heap) σ6 H7 s7:=I7.oF λp hp=>I7.pin p (List.mem_append_right _ (by
    rcases List.mem_append.mp hp with z | z
    .exact List.mem_append_left _ (List.mem_append_left _ z)
    .exact List.mem_append_right _ z))
   have hbb:=hb _ s7 σ6 H7 a3 _ I7' (A7.more λp hp z=>hD (by rw[<-z];exact(tP hp).1)) q7;rw[hx] at hbb;refine aK hbb λ_ s8 ⟨a8,σ8,H8,I8,A8,q8⟩=>?_;obtain⟨m',hm,w8⟩:=hN _ _ _ q8;obtain⟨b1,b2⟩:=back I8 λp hp=>List.mem_append_right _ hp;exact⟨m',hm,i+1,a8,σ8,H8,I8.fL,A8.less,b1,b2,w8⟩
end
def AD (p:Pos)(it:Value)(tg:Expr)(env:Env)(ifs:List Expr)(fH:Sem Unit)(c:Code):Sem Fin:=standAt p >>= λ_=>pyNext it >>= λr=>match r with
 | none=>pure (.done .next)
 | some v=>letOwnedTupleGo tg it v >>= λ_=>assign tg env v >>= λ_=>
  (forIn ifs true λc r=>if r=true then do let ok <-isTrue c env (eval c env);pure (ForInStep.yield ok) else pure (ForInStep.yield r)) >>= λok=>if ok=true then fH >>= λ_=>again c else again c
def Ew (elt:Expr)(D:Addr)(env:Env):Sem Unit:=eval elt env >>= λx=>call (.builtin "list.append") [.ref D,x] >>= λ_=>pure ()
section
variable {elt kx vx tg tg1 iter Bg:Expr}{ifs F0:List Expr}{sc:Scope}{pos:Pos}{it:Value}{D:Addr}{env:Env}
theorem Lw:compTurn (.ListComp elt [⟨tg,iter,ifs,0⟩] sc pos) 0 it (.ref D) env=AD iter.pos it tg env ifs (Ew elt D env) (.compLoop (.ListComp elt [⟨tg,iter,ifs,0⟩] sc pos) 0 it (.ref D) env):=rfl
end
section
variable {X:Cx}{it D:Addr}{e tg:Expr}{d:Nat}{ifs:List Expr}{fH:Sem Unit}{p:Pos}
theorem HB (hq:(Code.compLoop e d (.ref it) (.ref D) X.env).quiet=true)(hd:(model X.prog X.w).den (.compLoop e d (.ref it) (.ref D) X.env)=(compTurn e d (.ref it) (.ref D) X.env).onRaise (λx=>do noteFrame x X.env;theTreesLotGoes x))
 (ha:X.A.under (.compLoop e d (.ref it) (.ref D) X.env)=X.A) (ht:compTurn e d (.ref it) (.ref D) X.env=AD p (.ref it) tg X.env ifs fH (.compLoop e d (.ref it) (.ref D) X.env)):m8 X e d it D tg ifs fH:=by
 intro I R turn n s h;refine codeAny_loop hq I (λn s hI=>?_) n h;rw[hd,ha,ht];refine wpAny_noted ?_;unfold AD;refine wpAny_bind (wpAny_standAt (wpAny_bind (wpAny_mono (turn n s hI) (λr s₁ h₁=>?_) λ_ _ h'=>h'.elim)));cases r with
 | none=>exact wpAny_pure h₁
 | some v=>
  refine wpAny_bind (wpAny_mono h₁ (λ_ s₂ h₂=>wpAny_bind (wpAny_mono h₂ (λ_ s₃ h₃=>wpAny_bind (wpAny_mono h₃ (λok s₄ h₄=>?_) λ_ _ h'=>h'.elim)) λ_ _ h'=>h'.elim)) λ_ _ h'=>h'.elim);cases ok with
  | false=>exact wpAny_pure ⟨rfl,h₄⟩
  | true=>exact wpAny_bind (wpAny_mono h₄ (λ_ s₅ h₅=>wpAny_pure ⟨rfl,h₅⟩) λ_ _ h'=>h'.elim)
end
section
variable {X:Cx}{elt kx vx tg tg1 iter Bg:Expr}{ifs F0:List Expr}{sc:Scope}{pos:Pos}{it D:Addr}
theorem Ke:m8 X (.ListComp elt [⟨tg,iter,ifs,0⟩] sc pos) 0 it D tg ifs (Ew elt D X.env):=HB rfl rfl rfl Lw
end
def oe (prog:Program)(w:World)(e:Expr)(d:Nat):Prop:=∀(A:Around) (it acc:Value) (env:Env) (R:Result->Sh->Prop) (s:Sh),
 codeAny (model prog w) A (.compLoop e d it acc env) R s->wpAny (model prog w) A (pyIter it) (λit' s'=>codeAny (model prog w) A (.compLoop e d it' acc env) R s') (λ_ _=>False) s->codeAny (model prog w) A (.compStart e d it acc env) R s
section
variable {prog:Program}{w:World}{elt kx vx tg tg1 iter Bg:Expr}{ifs F0:List Expr}{sc:Scope}{pos:Pos}
theorem Fu {e:Expr}{d:Nat}{p:Pos} (hd:∀it acc env,(model prog w).den (.compStart e d it acc env)=(ask >>= λt=>if t.params.followText "comprehension-iter-twice" = true then again (.compLoop e d it acc env) else
 rule "comprehension.iter-twice" >>= λ_=>standAt p >>= λ_=>pyIter it >>= λit'=>again (.compLoop e d it' acc env)).onRaise (λx=>do noteFrame x env;standAt theWindowsPlace)) (hu:∀A it acc env,Around.under A (.compStart e d it acc env)=A):oe prog w e d:=by
 intro A it acc env R s h0 h;refine codeAny_of_tree ?_;rw[hu];rw[hd];refine wpAny_notedAt ?_;refine wpAny_bind (wpAny_askSetting (wpAny_ite ?_));split
 .exact wpAny_pure (And.intro rfl h0)
 .exact wpAny_bind (wpAny_rule (wpAny_bind (wpAny_standAt (wpAny_bind (wpAny_mono h (λit' s' h'=>wpAny_pure (And.intro rfl h')) λ_ _ x=>x.elim)))))
theorem IP:oe prog w (.ListComp elt [⟨tg,iter,ifs,0⟩] sc pos) 0:=Fu (p:=iter.pos) (λ_ _ _=>rfl) λ_ _ _ _=>rfl
end
section
variable {X:Cx}{pins:List (Addr×Obj)}{σ:St}{H:Hp}{s:Sh}{sc:Scope}{xs M:List Str}{fp:List Addr}{J:It}{it:Addr}{tn:Nat->Heap->Prop}{e tg:Expr}{ifs:List Expr}{gt:TG}{tt:TT}{α:Type}{ob:α->HO}{tb:TB α}{a0:α}{R:α->Hp->Prop}{fH:Addr->Env->Sem Unit}{mk:Sem Value}{o0:Obj}
theorem rO {E:Value->Sh->Prop}{RR:Value->Addr->Result->Sh->Prop}(I:Inv X pins σ H s)(ok:jy sc X.env.scope xs M)(hM:∀(j:Nat) (y:Str),M[j]?=some y->(∃p∈sc.names,p.1=y)->X.N[j]?=some y)(hlen:M.length=X.N.length){q:Cx->Prop}(hq:∀C,q (cS X sc xs M C s H fp))
 (lE:∀(Q:Value->Sh->Prop) (E:Value->Sh->Prop) (s:Sh),Q (.ref s.heap.objs.size) { s with heap:=s.heap.push o0 }->wpAny (model X.prog X.w) X.A mk Q E s) (mK:o0.isFreed=false) (hk:∀a,ql (ob a)) (h0:∀(h:Heap) (D:Addr),h.get? D=some o0->sysModules<D->aV X.prog X.w H h D (ob a0))
 (S:oe X.prog X.w e 0) (L:∀C D,m8 (cS X sc xs M C s H fp) e 0 it D tg ifs (fH D (cS X sc xs M C s H fp).env))
 (T:zP q X.prog X.w X.K tg J fp it tn) (st:tn 0 s.heap) (hf:∀b∈fp,eL X pins H b)
 (hG:∀C,PG (cS X sc xs M C s H fp) tg gt) (ht:∀C,PF (cS X sc xs M C s H fp) ifs tt) (hb:∀C D,PB (cS X sc xs M C s H fp) D ob (fH D (cS X sc xs M C s H fp).env) tb)
 (h:yF J gt tt tb (λa _ H=>R a H) a0 (List.replicate xs.length none++σ) H)
 (hRR:∀D C a H' s' m,R a H'->H' D=none->Inv X pins σ (upd H' D (ob a)) s'->eL X pins (upd H' D (ob a)) C->s'.heap.Ns C m->RR (.ref D) C (.ok .next) s'):
 wpAny (model X.prog X.w) X.A mk (λacc s₃=>wpAny (model X.prog X.w) X.A (newFunctionEnv sc X.env.globals (cP X.env sc.names []) [] X.env.qual none .none (some X.env)) (λMY s₄=>
  codeAny (model X.prog X.w) X.A (.compStart e 0 (.ref it) acc { MY with scope:=relabel sc X.env }) (RR acc MY.locals) s₄) E s₃) E s:=by
 refine lE _ _ _ (wpAny_newFunctionEnv ok.lC (by intro y hy;simp at hy) (λh₁ F3 Bh=>?_) ok.kind);dsimp only at F3 Bh ⊢;generalize hH2:s.heap.push o0=H2 at F3 Bh ⊢;have hC:H2.objs.size=s.heap.objs.size+1:=by rw[<-hH2,Heap.size_push]
 have hDC:s.heap.objs.size≠H2.objs.size:=by rw[hC];exact Nat.ne_of_lt (Nat.lt_succ_self _)
 have Bi:s.heap.objs.size<=H2.objs.size:=by rw[hC];exact Nat.le_succ _
 have hl:∀b∈fp,b<s.heap.objs.size:=λb hb=>by obtain⟨o,e,_⟩:=T.obj 0 _ st b hb;exact Heap.lt_size e
 have old:∀b o,s.heap.get? b=some o->h₁.get? b=some o:=λb o e=>
  (Bh.2 b (by rw[hC];exact Nat.ne_of_lt (Nat.lt_succ_of_lt (Heap.lt_size e)))).trans (Heap.get?_push_of_some _ (hH2 ▸ Heap.get?_push_of_some _ e))
 have tj:h₁.get? s.heap.objs.size=some o0:=(Bh.2 _ hDC).trans (Heap.get?_push_of_some _ (hH2 ▸ Heap.get?_push_size _ mK));have I0:Inv (cS X sc xs M H2.objs.size s H fp) [] (List.replicate xs.length none++σ) H { s with heap:=h₁,toks:=s.toks+([]:List (Str×Value)).length }:=E2 I ok hM hlen Bi hf hl old F3 rfl rfl;have fsF:∀{b:Addr},b≠X.env.locals->b∉X.fs->b∉lr X.stack:=λ{b} h1 h2 z=>by
  rcases List.mem_cons.mp (I.qJ b z) with q | q
  .exact h1 q
  .exact h2 q
 have se:∀y c,(cP X.env sc.names []).lookup y=some c->c<s.heap.objs.size:=λy c e=>by
  rcases eI _ _ _ _ _ e with q | q
  .cases q
  .obtain⟨v,z⟩:=I.cell y c q;exact z.lt
 have f0:=I.me (b:=s.heap.objs.size) (H':=H) (Nat.le_refl _) (I.aw.fresh (Nat.le_refl _));have A0:AccAt (cS X sc xs M H2.objs.size s H fp) [] s.heap.objs.size (ob a0) H { s with heap:=h₁,toks:=s.toks+([]:List (Str×Value)).length }:=
  ⟨⟨f0.1,hDC,fsF f0.2.1 f0.2.2.1,.inr (Nat.le_refl _),λy c e z=>absurd (se y c e) (by rw[z];exact Nat.lt_irrefl _),λp hp=>absurd (show p∈([]:List (Addr×Obj)) from hp) (by simp)⟩,Nat.le_refl _,h0 _ _ tj I.big,hk _⟩
 have hD:s.heap.objs.size∉fp:=λz=>absurd (hl _ z) (Nat.lt_irrefl _);have fB:∀b∈fp,eL (cS X sc xs M H2.objs.size s H fp) [] H b:=λb hb=>
  ⟨(hf b hb).1,Nat.ne_of_lt (Nat.lt_of_lt_of_le (hl b hb) Bi),fsF (hf b hb).2.1 (hf b hb).2.2.1,.inl hb,((y6 I ok Bi hf hl).exf b hb).2,λp hp=>absurd (show p∈([]:List (Addr×Obj)) from hp) (by simp)⟩
 have loop:∀s₃:Sh,s₃={ s with heap:=h₁,toks:=s.toks+([]:List (Str×Value)).length } ->
  codeAny (model X.prog X.w) X.A (.compLoop e 0 (.ref it) (.ref s.heap.objs.size) (compEnvC sc (cP X.env sc.names []) H2.objs.size X.env)) (RR (.ref s.heap.objs.size) H2.objs.size) s₃:=by
  rintro s₃ rfl;refine codeAny_mono (Cr (X:=cS X sc xs M H2.objs.size s H fp) rfl (L _ _) T (hq _) hD (hG _) (ht _) (hb _ _) I0 A0 (T.keep 0 _ _ st λb hb o e=>old b o e) fB h) λr s4 hr=>?_;obtain⟨rfl,a,σ',H',I4,A4,q⟩:=hr;have I5:Inv X pins σ H' s4:=I.Np (ch:=fp) I4.os I4.base I4.aw I4.bare λb hb=>⟨(hf b hb).2.2.2.1,(hf b hb).2.1,(hf b hb).2.2.2.2.1,(hf b hb).2.2.2.2.2⟩;obtain⟨m,hn,_⟩:=I4.loc;have nD:H' s.heap.objs.size=none:=A4.fp.1;have tsD:Ts H' (upd H' s.heap.objs.size (ob a)):=λb xs e=>by rw[ax (bC e nD)];exact e
  have I6:Inv X pins σ (upd H' s.heap.objs.size (ob a)) s4:=I5.Ak (I.me (Nat.le_refl _) nD) I.sz (A4.ok.ql A4.kind (λ_ e=>e) tsD);refine hRR _ _ a H' s4 m q nD I6 (I.me Bi ?_) hn;rw[ax (Ne.symm hDC)];exact I4.free
 exact S X.A (.ref it) _ _ _ _ (loop _ rfl) (T.self X.A 0 _ _ _ (T.keep 0 _ _ st λb hb o e=>old b o e) (loop _ rfl))
end
structure GR (P:Program)(w:World)(α:Type)(ob:α->HO)(a0:α)(mk:Sem Value):Prop where
 kind:∀a,ql (ob a)
 made:∃o0:Obj,o0.isFreed=false/\(∀(A:Around) (Q:Value->Sh->Prop) (E:Value->Sh->Prop) (s:Sh),Q (.ref s.heap.objs.size) { s with heap:=s.heap.push o0 }->wpAny (model P w) A mk Q E s) /\
  ∀(H:Hp) (h:Heap) (D:Addr),h.get? D=some o0->sysModules<D->aV P w H h D (ob a0)
theorem H9 {P:Program}{w:World}:GR P w (List V) HO.lst [] (newList []) where
 kind:=λ_=>trivial
 made:=⟨_,rfl,λA Q E s h=>wpAny_newObj_type h,λH h D e _=>⟨Nat.zero_le _,[],0,.nil,e⟩⟩
structure GK (X:Cx)(e:Expr)(sc:Scope)(tg iter:Expr)(ifs:List Expr)(mk:Sem Value)(fH:Addr->Env->Sem Unit):Prop where
 cl:∃gs,clausesOf e=⟨tg,iter,ifs,0⟩::gs
 ev:∃p,eval e X.env=comprehension e sc X.env p mk false (eval iter X.env)
 start:∀(P:Program) (w:World),oe P w e 0
 loop:∀(X:Cx) it D,m8 X e 0 it D tg ifs (fH D X.env)
section
variable {X:Cx}{elt kx vx tg tg1 iter Bg:Expr}{ifs F0:List Expr}{sc:Scope}{pos:Pos}
theorem NB:GK X (.ListComp elt [⟨tg,iter,ifs,0⟩] sc pos) sc tg iter ifs (newList []) (Ew elt):=⟨⟨_,rfl⟩,⟨_,rfl⟩,λ_ _=>IP,λ_ _ _=>Ke⟩
end
def Ox {α:Type}(wi:TI)(gt:TG)(tt:TT)(tb:TB α)(ob:α->HO)(a0:α)(n:Nat):TE:=λσ H Q=>wi σ H λJ H1=>yF J gt tt tb (λa _ H2=>∀D,H2 D=none->Q (.ref D) (upd H2 D (ob a))) a0 (List.replicate n none++σ) H1
section
variable {X:Cx}{e tg iter:Expr}{ifs:List Expr}{sc:Scope}{pos:Pos}{mk:Sem Value}{fH:Addr->Env->Sem Unit}{xs M:List Str}{wi:TI}{gt:TG}{tt:TT}{α:Type}{tb:TB α}{ob:α->HO}{a0:α}
theorem v7 {pins:List (Addr×Obj)}{σ:St}{H:Hp}{s:Sh}(I:Inv X pins σ H s)(ok:jy sc X.env.scope xs M):closureFor sc X.env=pure (cP X.env sc.names []):=
 uS λp hp e=>I.ok.has p.1 (ok.free p hp e)
theorem yH (hc:X.calm=true)(c:GK X e sc tg iter ifs mk fH)(lE:GR X.prog X.w α ob a0 mk)(ok:ou sc X.env.scope xs M=true)(hM:∀(j:Nat) (y:Str),M[j]?=some y->(∃p∈sc.names,p.1=y)->X.N[j]?=some y)(hlen:M.length=X.N.length)
 (hi:PI X tg iter wi) (hG:∀C s H fp,PG (cS X sc xs M C s H fp) tg gt) (ht:∀C s H fp,PF (cS X sc xs M C s H fp) ifs tt) (hb:∀C s H fp D,PB (cS X sc xs M C s H fp) D ob (fH D (cS X sc xs M C s H fp).env) tb)
 (hs:∀x,foldedSetIterable iter X.env x=pure x):PE X e (Ox wi gt tt tb ob a0 xs.length):=by
 intro pins s σ H Q I h;have ok:=jy.of ok;obtain⟨gs,mL⟩:=c.cl;obtain⟨p,ev⟩:=c.ev;obtain⟨o0,mK,hm,h0⟩:=lE.made;rw[ev];refine wpAny_comprehension_free (use:=none) mL hs (v7 I ok) ok.kind ok.locs (aK (hi pins s σ H _ I h) λv s1 h1=>aK h1 λitv s2 h2=>?_);obtain⟨it,fp,tn,J,H2,rfl,I2,T,Dy,f2,lw⟩:=h2;refine rO (RR:=λacc C=>compPost (model X.prog X.w) X.A X.xe none (EP X pins σ Q) acc C) I2 ok hM hlen (λ_=>hc) (λQ E s=>hm X.A Q E s) mK lE.kind (λh D=>h0 _ h D) (c.start _ _) (λC D=>c.loop _ it D) T.q Dy f2 (λC=>hG _ _ _ _) (λC=>ht _ _ _ _) (λC D=>hb _ _ _ _ _) lw ?_;intro D C a H' s' m q hD I' fC hn;exact⟨m,hn,λh' lD=>⟨.ref D,_,I'.turned (t':=s'.toks) (it:=C) (λb o hb e=>(lD.2 b hb).trans e) fC.1 fC.2.1 fC.2.2.2.1 fC.2.2.2.2.1 fC.2.2.2.2.2,rfl,q D hD⟩⟩
theorem yQ {y:Str}{py F4:Pos}{i:Nat}(hc:X.calm=true)(hN:X.N.Nodup)(hiy:X.N[i]?=some y)(hy:X.env.scope.names.lookup y=some .local)
 (hsw:exec (.Assign [.Name y py] e F4) X.env=(standAt F4 >>= λ_=>(do let _ <-comprehension e sc X.env pos mk false (eval iter X.env) (some (assign (.Name y py) X.env))) >>= λ_=>pure .next))
 (c:GK X e sc tg iter ifs mk fH) (lE:GR X.prog X.w α ob a0 mk) (ok:ou sc X.env.scope xs M=true) (hM:∀(j:Nat) (y:Str),M[j]?=some y->(∃p∈sc.names,p.1=y)->X.N[j]?=some y) (hlen:M.length=X.N.length)
 (hi:PI X tg iter wi) (hG:∀C s H fp,PG (cS X sc xs M C s H fp) tg gt) (ht:∀C s H fp,PF (cS X sc xs M C s H fp) ifs tt) (hb:∀C s H fp D,PB (cS X sc xs M C s H fp) D ob (fH D (cS X sc xs M C s H fp).env) tb)
 (hs:∀x,foldedSetIterable iter X.env x=pure x):PS X (.Assign [.Name y py] e F4) (LB i (Ox wi gt tt tb ob a0 xs.length)):=by
 intro pins s σ H D I h;have ok:=jy.of ok;obtain⟨gs,mL⟩:=c.cl;obtain⟨o0,mK,hm,h0⟩:=lE.made;rw[hsw];refine wpAny_bind (wpAny_standAt (wpAny_bind (wpAny_bind (wpAny_mono (wpAny_comprehension_free (use:=some (assign (.Name y py) X.env)) (Q:=λ_ s'=>SP X pins D .next s') mL hs (v7 I ok) ok.kind ok.locs
  (aK (hi pins s σ H _ I h) λv s1 h1=>aK h1 λitv s2 h2=>?_)) (λ_ s' hq=>wpAny_pure (wpAny_pure hq)) λ_ _ e=>e))))
 obtain⟨it,fp,tn,J,H2,rfl,I2,T,Dy,f2,lw⟩:=h2;refine rO (RR:=λacc C=>compPost (model X.prog X.w) X.A X.xe (some (assign (.Name y py) X.env)) (λ_ s'=>SP X pins D .next s') acc C) I2 ok hM hlen (λ_=>hc) (λQ E s=>hm X.A Q E s) mK lE.kind (λh D=>h0 _ h D) (c.start _ _) (λC D=>c.loop _ it D) T.q Dy f2 (λC=>hG _ _ _ _) (λC=>ht _ _ _ _) (λC D=>hb _ _ _ _ _) lw ?_;intro L C a H' s' m q hD I' fC hn;show wpAny _ X.A (assign (.Name y py) X.env (.ref L)) _ _ _;refine wpAny_assign_Name (tD (v:=.ref L) I' hN hiy (.inl hy) rfl (λs2 I2 xF=>?_) (.inr hy));obtain⟨ad,sb,ha⟩:=xF;have hCa:C≠ad:=by
  rcases ha with e | e
  .rw[e];exact fC.2.1
  .exact Ne.symm (fC.2.2.2.2.1 _ _ e)
 exact⟨m,hn.sameBut sb hCa,λh' lD=>⟨_,_,I2.turned (t':=s2.toks) (it:=C) (λb o hb e=>(lD.2 b hb).trans e) fC.1 fC.2.1 fC.2.2.2.1 fC.2.2.2.2.1 fC.2.2.2.2.2,q L hD⟩⟩
end
section
variable {X:Cx}{sc:Scope}{x:Str}{px pos:Pos}{elt iter:Expr}{ifs:List Expr}{tt:TT}{te tl:TE}
end
end L2
namespace L2
open PySem PySem.Spec PyProof.Rows PySem.SeqAt
section
variable {X:Cx}
end
section
variable {X:Cx}
end
end L2
namespace L2
open PySem PySem.Spec PyProof.Rows
section
variable {prog:Program}{w:World}{A:Around}{E:Value->Sh->Prop}{s:Sh}{K:Fg}
end
section
variable {X:Cx}{pins:List (Addr×Obj)}{σ:St}{H:Hp}{s:Sh}
end
section
variable {P:Program}{w:World}{K:Fg}{mg:Str->Option Value}{base:Heap}{A:Around}{outer:List Env}{s:Sh}{H:Hp}
end
def told (wd:Addr->Str->Option Str->Prop)(Q:VK):Addr->Option Addr->Hp->Prop:=λC dx H2=>∃wrd fo,wd C wrd fo/\∃us,(match dx,fo with
 | none,none=>us=[]
 | some D,some f=>∃v,H2 D=some (.xd [(f,v)])/\us=[v]
 | _,_=>False)/\∀(t:Addr) (H':Hp),(∀b o,H2 b=some o->H' b=some o)->H' t=some (.tup ([.str "refused",.str wrd]++us))->Q (.ref t) H'
section
variable {X:Cx}
end
def Ny (Ps:List Addr)(H:Hp):Prop:=∀b,H b=none\/(∃o xs,H b=some (.bQ o (.lst xs)))\/(b∈Ps/\H b=some (.gu #[]))
section
variable {P:Program}{w:World}{K:Fg}{mg:Str->Option Value}{base:Heap}
end
theorem zI {X:Cx}:Passes (kQ X.prog X.w) X E0:=λ_ _ _ _ _ _ _ ⟨_,_,_,_,_,_,_,_,_,_,_,_,_,_,_,_,_,_,_,h⟩=>h.elim
theorem tO:∀{ns:List Int} {ai:List Value},Vals (ns.map V.int) ai->IntsAre ai ns
 | [],_,.nil=>.nil
 | n::r,_,.cons h t=>by obtain⟨tk,rfl⟩:=h;exact .cons n tk (tO t)
theorem map_getD (ns:List Int):(List.range ns.length).map (λi=>ns.getD i 0)=ns:=by
 apply List.ext_getElem
 .simp
 .intro i h1 h2;simp at h1;simp[List.getD_eq_getElem?_getD,h1]
section
variable {X:Cx}
theorem CB:dz X (.builtin "len") (λxs H Q=>∃(a:Addr) (S:Int->Bool) (n:Nat),xs=[V.ref a]/\H a=some (.set S n)/\Q (.int (n:Nat)) H):=by intro pins s σ H xs us Q I r h;obtain⟨a,S,n,rfl,ha,q⟩:=h;obtain⟨u,rfl,ru⟩:=vals1 r;cases ru;obtain⟨o,es,ep,t,e,ex,d,_,_,sb,ft,rfl⟩:=(show s.heap.SetOf (intKind X.prog X.w) a S n from I.aw a _ ha);refine call_len_set e ex d ft (by have:scanBound=4096:=rfl;omega) ?_;exact⟨.int (es.size:Nat),H,I.kept (t':=s.toks+1+1) (λ_ _ z=>z),⟨_,rfl⟩,q⟩
end
section
variable {prog:Program}{w:World}{A:Around}{E:Value->Sh->Prop}{s:Sh}
end
section
variable {X:Cx}
end
end L2
namespace L2
open PySem PySem.Spec PyProof.Rows PySem.AutoSeq1
section
variable {X:Cx}
end
end L2
namespace L2
open PySem PySem.Spec
section
variable {X:Cx}{es:List Expr}{t:TA}{te:TE}
end
end L2
namespace HT
open PySem PySem.Spec PyProof.Rows
section
variable {prog:Program}{w:World}{A:Around}{E:Value->Sh->Prop}{s:Sh}
theorem mQ {t sl:Addr}{items:Array Value}{vl vu:Value}{lo hi:Option Int}{Q:Value->Sh->Prop}(ht:IsTup s.heap t items)(hs:s.heap.IsSliceOf sl vl vu .none)(pl:IsPart vl lo)(pu:IsPart vu hi)
 (hw:aX items.size 0 lo=0/\aX items.size items.size hi=items.size)
 (h:Q (.ref t) s):wpAny (model prog w) A (getItem (.ref t) (.ref sl)) Q E s:=by
 obtain⟨os,si,hcs,pL⟩:=id hs;have hTs:s.TypeIs (.ref sl) "slice":=⟨os,si,hcs⟩;unfold getItem
 try with_reducible refine wpAny_holding ?_
 first | refine wpAny_bind (wpAny_pure ?_) | skip
 refine wpAny_bind (wpAny_sequenceKey ht.typeIs (by decide) ?_);refine wpAny_bind (wpAny_callSpecial?_slot (name:=Str.ofString "__getitem__") ht.typeIs PyProof.Rows.slot_tuple_getitem
  (wpAny_call_entry PyProof.Rows.slot_tuple_getitem ht.typeIs entry_tuple_getitem ?_ (args_tuple_getitem _ _)))
 show wpAny _ _ (Builtin.Tuple.tupleItemsOf (.ref t) >>= _) _ _ s;refine wpAny_bind (tupleItemsOf_ ht ?_);refine wpAny_bind (wpAny_typeOf hTs ?_);rw[if_pos (by decide)];refine wpAny_bind (jN hs pl pu ?_);have hyes:(((aX items.size 0 lo:Nat):Int)==0&&(1:Int)==1&&(aX items.size items.size hi-aX items.size 0 lo)==items.size)=true:=by rw[hw.1,hw.2];simp
 show wpAny _ _ (if (((aX items.size 0 lo:Nat):Int)==0&&(1:Int)==1&&(aX items.size items.size hi-aX items.size 0 lo)==items.size)=true then _ else _) _ _ s;rw[if_pos hyes];unfold Builtin.Tuple.tupleIsExact;refine wpAny_bind (wpAny_bind (wpAny_typeOf ht.typeIs (wpAny_pure ?_)));rw[if_pos (by decide)];refine wpAny_bind (wpAny_rule ?_);exact wpAny_pure ⟨_,rfl,wpAny_pure h⟩
end
end HT
namespace L2
open PySem PySem.Spec PyProof.Rows
section
variable {X:Cx}
theorem HL:uA X (λx lo hi H Q=>∃a xs,x = .ref a/\cz X.K H a xs/\((HT.aX xs.length 0 lo=0/\HT.aX xs.length xs.length hi=xs.length)->Q (.ref a) H) /\
 (¬(HT.aX xs.length 0 lo=0/\HT.aX xs.length xs.length hi=xs.length)->∀p,H p=none->Q (.ref p) (upd H p (.tup (mi xs lo hi))))):=by
 intro pins s σ H x v vl vu lo hi sl Q I rx hs pl pu h;obtain⟨a,xs,rfl,hx,q1,q2⟩:=h
 by_cases hw:HT.aX xs.length 0 lo=0/\HT.aX xs.length xs.length hi=xs.length
 .cases rx;obtain⟨ai,r,ht,hz⟩:=I.tuple hx;have hlen:ai.toArray.size=xs.length:=by rw[List.size_toArray];exact r.length.symm
  exact⟨"tuple",_,PyProof.Rows.slot_tuple_getitem.lookup,ht.typeIs,HT.mQ ht hs pl pu (by rw[hlen];exact hw) ⟨.ref a,H,I,rfl,q1 hw⟩⟩
 .exact MA pins s σ H _ v vl vu lo hi sl Q I rx hs pl pu ⟨a,xs,rfl,hx,hw,q2 hw⟩
end
section
variable {X:Cx}{CX:ku}{k:Nat}{f C:Addr}{fd:FuncData}{ps ks:List Str}{sp:Sp}{E:XK}{x:Str}{p pos:Pos}{e:Expr}{es:List Expr}{kws:List Keyword}{t tk:TA}{g:List Value->List Value->List Value}{gV:List V->List V->List V}
def K9 (C:Addr)(sp:Sp)(gV:List V->List V->List V)(E:XK)(t tk:TA):TE:=λσ H Q=>t σ H λvs H1=>tk σ H1 λzs H2=>∀x dx,H2 x=none->H2 dx=none->dx≠x->sp (gV (.ref x::vs) zs) (upd (upd H2 dx (.own x)) x (.ins C dx [])) (λv H3=>v = .aj/\Q (.ref x) H3) E
theorem Dj {pins:List (Addr×Obj)}{σ:St}{H:Hp}{s:Sh}{Q:VK}{us ws:List Value}{vs zs:List V}(M:Mk X.K C f)(F:dM X.prog X.w X.K X.mg X.base CX k f fd ps sp)(hr:cT (k+1) X.A)(hb:wx X.K fd ps ks g gV)
 (hx:Passes CX X E) (I:Inv X pins σ H s) (r:Vals vs us) (rz:Vals zs ws)
 (h:∀x dx,H x=none->H dx=none->dx≠x->sp (gV (.ref x::vs) zs) (upd (upd H dx (.own x)) x (.ins C dx [])) (λv H2=>v = .aj/\Q (.ref x) H2) E):
 wpAny (model X.prog X.w) X.A (call (.ref C) us (ks.zip ws)) (EP X pins σ Q) X.xe s:=by
 have hq:=h (s.heap.objs.size+1) s.heap.objs.size (I.aw.fresh (Nat.le_succ _)) (I.aw.fresh (Nat.le_refl _)) (Nat.ne_of_lt (Nat.lt_succ_self _));have I2:=Inv.made (C:=C) I;have r2:=hb.rel (vs:=V.ref (s.heap.objs.size+1)::vs) (us:=Value.ref (s.heap.objs.size+1)::us) (.cons rfl r) rz;have hl:(g (Value.ref (s.heap.objs.size+1)::us) ws).length=ps.length:=by rw[<-r2.length];exact F.len _ _ _ _ hq
 refine wpAny_call (vI (f:=f) I.eh M.makes M.init (beq_iff_eq.mp M.fn) (codeAny_mono (F.run _ X.stack _ _ ⟨Value.ref (s.heap.objs.size+1)::us,ks.zip ws⟩ _ _ _ E (hr.make C us (ks.zip ws)) (I2.j7.make C us (ks.zip ws)) (hb.to _ (Value.ref (s.heap.objs.size+1)::us) ws I2.eh hl) r2 hq) λr s' gD=>?_));cases r with
 | error e=>exact hx pins σ _ _ e s' I2 gD
 | ok fl=>
  cases fl with
  | ret u=>obtain⟨v,H',I3,rv,ev,q3⟩:=I2.after gD;subst ev;exact⟨rv,⟨V.ref (s.heap.objs.size+1),H',I3,rfl,q3⟩⟩
  | next=>exact False.elim gD
  | brk=>exact False.elim gD
  | cont=>exact False.elim gD
theorem EO (M:Mk X.K C f)(F:dM X.prog X.w X.K X.mg X.base CX k f fd ps sp)(hr:cT (k+1) X.A)(hg:Gl X x)(hm:X.mg x=some (.ref C))(hb:wx X.K fd ps ks g gV)(hx:Passes CX X E)
 (ha:PA X (e::es) t) (hkw:PK X kws tk) (fS:(backToKw pos (keywordEach kws X.env)).all (·.1.isSome)=true) (hks:(backToKw pos (keywordEach kws X.env)).filterMap (·.1)=ks)
 (lB:(x==("__debug__":Str))=false) (he:starEach (e::es) X.env=(false,eval e X.env)::starEach es X.env)
 (iz:((backTo pos (starEach (e::es) X.env)).any (·.1)||(backToKw pos (keywordEach kws X.env)).any (·.1.isNone))=false):
 PE X (.Call (.Name x p) (e::es) kws pos) (K9 C sp gV E t tk):=by
 intro pins s σ H Q I h;refine wpAny_Call_Name_kw (jF I hg hm ?_ lB);refine W.callWith_KW (h₀:=X.base) I.ok.mod.jg M.kp fS (aK (ha pos pins s σ H _ I h) λus s1 ⟨vs,H1,I1,r,q⟩=>?_) iz he;refine aK (hkw pos pins s1 σ H1 _ I1 q) λws s2 ⟨zs,H2,I2,rz,q2⟩=>⟨I2.eh,?_⟩;rw[hks];exact Dj M F hr hb hx I2 r rz q2
def Nm (K:Fg):List V->Hp->VK->Prop:=λxs H Q=>∃(a:Addr) (ns:List Int),xs=[.ref a]/\cB K H a (ns.map V.int)/\ns.length<=1000/\∀(p:Addr) (S:Int->Bool),H p=none->Q (.ref p) (upd H p (.set S (ns.foldl step_dedup []).length))
theorem Cd (hc:X.calm=true):dz X (.type "set") (Nm X.K):=by
 intro pins s σ H xs us Q I r h;obtain⟨a,ns,rfl,hq,hl,q⟩:=h;obtain⟨u,rfl,ru⟩:=vals1 r;cases ru;obtain⟨ai,rv,p,hz⟩:=I.list hq;have hi:=tO rv;have el:ai.length=ns.length:=by rw[<-rv.length,List.length_map]
 have es:ai.toArray.size=ns.length:=by rw[List.size_toArray,el]
 have bd:ai.toArray.size+1<scanBound:=by rw[es];exact Nat.lt_of_le_of_lt (Nat.add_le_add_right hl 1) (by decide)
 refine call_set_list (I.ok.hd hc) p.isList (by simpa using hi) bd λh' tk hS hk=>?_;have fm:firstMet (λi=>ns.getD i 0) ai.toArray.size=ns.foldl step_dedup []:=by unfold firstMet;rw[es,map_getD]
 rw[fm] at hS;exact⟨.ref s.heap.objs.size,_,I.laid (h':=h') (t':=tk) (o:=.set _ _) (λb ob z=>hk b ob (Heap.lt_size z) z) (Nat.le_refl _) hS,rfl,q _ _ (I.aw.fresh (Nat.le_refl _))⟩
end
end L2
namespace L2
open PySem PySem.Spec PyProof.Rows PySem.SeqAt
section
variable {K:Fg}{H:Hp}{n:Nat}{a:Addr}{xs:List V}{y:V}
theorem v8 (ha:cz K H a xs)(fy:lM y=true):jf K H n (.ref a) y false:=by
 intro X pins σ s A u v hK I rx ry hu;subst hK;cases rx;obtain⟨ai,r1,p1,_⟩:=I.tuple ha;have p1:s.heap.IsTuple a ai.toArray:=p1;have hu:A.units<cLine:=by omega
 cases y with
 | aj=>cases ry;exact⟨EqAt.tuple_none p1 hu,RcAt.tuple_none p1 hu,RcNeAt.tuple_none p1 hu⟩
 | bl b=>cases ry;exact⟨EqAt.tuple_bool b p1 hu,RcAt.tuple_bool b p1 hu,RcNeAt.tuple_bool b p1 hu⟩
 | int b=>obtain⟨t,rfl⟩:=ry;exact⟨EqAt.tuple_int b t p1 hu,RcAt.tuple_int b t p1 hu,RcNeAt.tuple_int b t p1 hu⟩
 | str b=>obtain⟨t,rfl⟩:=ry;exact⟨EqAt.tuple_str b t p1 hu,RcAt.tuple_str b t p1 hu,RcNeAt.tuple_str b t p1 hu⟩
 | _=>cases fy
theorem vy (ha:cz K H a xs)(fy:lM y=true):jf K H n y (.ref a) false:=by
 intro X pins σ s A u v hK I rx ry hu;subst hK;cases ry;obtain⟨ai,r1,p1,_⟩:=I.tuple ha;have p1:s.heap.IsTuple a ai.toArray:=p1;have hu:A.units<cLine:=by omega
 cases y with
 | aj=>cases rx;exact⟨EqAt.none_tuple p1 hu,RcAt.none_tuple p1 hu,RcNeAt.none_tuple p1 hu⟩
 | bl b=>cases rx;exact⟨EqAt.bool_tuple b p1 hu,RcAt.bool_tuple b p1 hu,RcNeAt.bool_tuple b p1 hu⟩
 | int b=>obtain⟨t,rfl⟩:=rx;exact⟨EqAt.int_tuple b t p1 hu,RcAt.int_tuple b t p1 hu,RcNeAt.int_tuple b t p1 hu⟩
 | str b=>obtain⟨t,rfl⟩:=rx;exact⟨EqAt.str_tuple b t p1 hu,RcAt.str_tuple b t p1 hu,RcNeAt.str_tuple b t p1 hu⟩
 | _=>cases fy
def vU (u:Value):Option V:=match u with
 | .none=>some .aj
 | .bool b=>some (.bl b)
 | .int i _=>some (.int i)
 | .str z _=>some (.str z)
 | .bytes b _=>some (.pH b)
 | .float b _=>some (.sf b)
 | .ref a=>some (.ref a)
 | .type n=>some (.ty n)
 | _=>none
theorem NH {z:V}{u:Value}(r:RelV z u):vU u=some z:=by
 cases z with
 | aj=>cases r;rfl
 | bl b=>cases r;rfl
 | int i=>obtain⟨t,rfl⟩:=r;rfl
 | str i=>obtain⟨t,rfl⟩:=r;rfl
 | pH i=>obtain⟨t,rfl⟩:=r;rfl
 | sf i=>obtain⟨t,rfl⟩:=r;rfl
 | ref a=>cases r;rfl
 | ty n=>cases r;rfl
def gU (g:V->Bool)(u:Value):Bool:=((vU u).map g).getD false
theorem G5 {g:V->Bool}{z:V}{u:Value}(r:RelV z u):gU g u=g z:=by unfold gU;rw[NH r];rfl
theorem nB {g:V->Bool}:∀{xs:List V} {us:List Value},Vals xs us->us.any (gU g)=xs.any g
 | _,_,.nil=>rfl
 | y::xs,u::us,.cons r t=>by rw[List.any_cons,List.any_cons,G5 r,nB t]
def FN (K:Fg)(n:Nat)(neg:Bool):R2:=λx y H Q=>∃p xs,∃g:V->Bool,y = .ref p/\(cB K H p xs\/cz K H p xs)/\(∀z∈xs,jf K H n z x (g z))/\Q (.bl (if neg then !xs.any g else xs.any g)) H
theorem nq {X:Cx}{pins:List (Addr×Obj)}{σ:St}{s:Sh}{A:Around}{g:V->Bool}{x:V}{v:Value}(I:Inv X pins σ H s)(rx:RelV x v)(hu:A.units+n<cLine):∀{xs:List V} {us:List Value},Vals xs us->(∀z∈xs,jf X.K H n z x (g z))->∀u∈us,SeqAt.EqAt A s u v (gU g u)
 | _,_,.nil,_=>λu hu=>by cases hu
 | y::xs,u::us,.cons r t,f=>λu' hu'=>by
  rcases List.mem_cons.mp hu' with rfl | hu'
  .rw[G5 r];exact(f y (List.mem_cons_self ..) X pins σ s A _ _ rfl I r rx hu).1
  .exact nq I rx hu t (λz hz=>f z (List.mem_cons_of_mem _ hz)) u' hu'
variable {X:Cx}
theorem MF (hu:X.A.units+1+n<cLine):bP X (compareOp .In) (FN X.K n false):=by
 intro pins s σ H x y v u Q I rx ry h;obtain⟨p,xs,g,rfl,hq,fs,q⟩:=h;cases ry;rcases hq with hq | hq
 .obtain⟨ai,r,pl,hz⟩:=I.list hq;refine SeqAt.in_listAt (gU g) pl.isList (λw hw=>nq (A:=X.A.in1) I rx (by rw[in1_units];exact hu) r fs w (by simpa using hw)) ⟨.bl _,H,I,rfl,?_⟩;rw[show ai.toArray.any (gU g)=ai.any (gU g) by simp,nB r];exact q
 .obtain⟨ai,r,pl,hz⟩:=I.tuple hq;refine SeqAt.in_tupleAt (gU g) pl (λw hw=>nq (A:=X.A.in1) I rx (by rw[in1_units];exact hu) r fs w (by simpa using hw)) ⟨.bl _,H,I,rfl,?_⟩;rw[show ai.toArray.any (gU g)=ai.any (gU g) by simp,nB r];exact q
theorem BP (hu:X.A.units+1+n<cLine):bP X (compareOp .NotIn) (FN X.K n true):=by
 intro pins s σ H x y v u Q I rx ry h;obtain⟨p,xs,g,rfl,hq,fs,q⟩:=h;cases ry;rcases hq with hq | hq
 .obtain⟨ai,r,pl,hz⟩:=I.list hq;refine SeqAt.notIn_listAt (gU g) pl.isList (λw hw=>nq (A:=X.A.in1) I rx (by rw[in1_units];exact hu) r fs w (by simpa using hw)) ⟨.bl _,H,I,rfl,?_⟩;rw[show ai.toArray.any (gU g)=ai.any (gU g) by simp,nB r];exact q
 .obtain⟨ai,r,pl,hz⟩:=I.tuple hq;refine SeqAt.notIn_tupleAt (gU g) pl (λw hw=>nq (A:=X.A.in1) I rx (by rw[in1_units];exact hu) r fs w (by simpa using hw)) ⟨.bl _,H,I,rfl,?_⟩;rw[show ai.toArray.any (gU g)=ai.any (gU g) by simp,nB r];exact q
end
section
variable {P:Program}{w:World}
abbrev bc:=List Key×Int
def bZ (P:Program)(w:World)(h:Heap)(k:bc)(a:Addr):Prop:=
 ∃(o:Obj) (items:Array Value) (n:Nat) (b:Addr) (t:Tok),h.get? a=some o/\o.cls = .type "tuple"/\o.data = .seq items n/\items = #[.ref b,.int k.2 t]/\IsTupleKey (aR P w) h k.1 b
def dE (P:Program)(w:World)(k:bc):Int:=reduceHash (Builtin.Tuple.tupleHashOf [tupleKeyHash (aR P w) k.1,(aR P w).hash (.inl k.2)])
theorem AH {M:Model}{A:Around}{E:Value->Sh->Prop}{s:Sh}{i:Int}{Q:Int->Sh->Prop}(q:Q (reduceHash i) s):wpAny M A (pyHashByItsType.reduced i) Q E s:=by
 unfold pyHashByItsType.reduced;unfold reduceHash at q;split
 .rename_i h;rw[if_pos h] at q;exact wpAny_pure q
 .rename_i h;rw[if_neg h] at q;exact wpAny_bind (wpAny_rule (wpAny_pure q))
theorem Jb (P:Program)(w:World)(i:Int)(t:Tok):(aR P w).is (.inl i) (.int i t)=true:=by
 first | exact decide_eq_true rfl | simp[aR] | rfl
theorem vH {A:Around}{E:Value->Sh->Prop}{s:Sh}{k:bc}{a:Addr}{Q:Int->Sh->Prop}(hr:A.units+1<cLine)(hk:bZ P w s.heap k a)
 (q:Q (dE P w k) { s with toks:=s.toks+(k.1.length+3) }):wpAny (model P w) A (pyHash (.ref a)) Q E s:=by
 obtain⟨o,items,n,b,t,g,hc,hd,rfl,kb⟩:=hk;have ty:s.TypeIs (.ref a) "tuple":=⟨o,g,hc⟩;show wpAny _ _ (pyHashByItsType (.ref a)) _ _ _;unfold pyHashByItsType;refine wpAny_bind (wpAny_cRoomFor_or (.inr (by omega)) ?_);refine wpAny_bind (wpAny_specialOf ty F.slot_tuple_hash.lookup ?_);rw[beq_builtin_none];refine wpAny_bind (wpAny_specialOf ty F.slot_tuple_hash.lookup ?_);refine wpAny_bind (wpAny_callSpecialIfBoundUnlessNone?_slot ty F.slot_tuple_hash ?_);refine wpAny_call_entry F.slot_tuple_hash ty F.entry_tuple_hash ?_;show wpAny _ _ (Builtin.«tuple.__hash__» { pos:=[.ref a] }) _ _ _;unfold Builtin.«tuple.__hash__»;refine wpAny_bind (Q:=_) ?_;show wpAny _ _ (pure (Value.ref a,[])) _ _ _;refine wpAny_pure ?_;show wpAny _ _ (Builtin.Tuple.tupleItemsOf (.ref a) >>= _) _ _ _;refine wpAny_bind (wpAny_tupleItemsOf g hd ?_);rw[<-Array.forIn_toList];show wpAny _ _ (forIn [Value.ref b,Value.int k.2 t] #[] _ >>= _) _ _ _;simp only[List.forIn_cons,List.forIn_nil,bind_assoc,pure_bind];refine wpAny_bind (wpAny_pyHash_tuple (by rw[in1_units];exact hr) kb ?_);refine wpAny_bind ((aR P w).pyHash (Jb P w k.2 t) ?_);refine wpAny_ret_mkInt ?_;refine AH ?_;exact q
theorem bZ.typeIs {s:Sh}{k:bc}{a:Addr}(h:bZ P w s.heap k a):s.TypeIs (.ref a) "tuple":=by obtain⟨o,items,n,b,t,g,hc,hd,rfl,kb⟩:=h;exact⟨o,g,hc⟩
theorem bZ.inj {h:Heap}{a:Addr}{x y:bc}(hx:bZ P w h x a)(hy:bZ P w h y a):x=y:=by obtain⟨o,items,n,b,t,g,hc,hd,rfl,kb⟩:=hx;obtain⟨o',items',n',b',t',g',mG,jo,rfl,kb'⟩:=hy;rw[g] at g';cases g';rw[hd] at jo;simp only[Data.seq.injEq,Array.mk.injEq,List.cons.injEq,Value.ref.injEq,Value.int.injEq,and_true] at jo;obtain⟨⟨rfl,e,_⟩,_⟩:=jo;exact Prod.ext (IsTupleKey.inj kb kb') e
theorem bZ.keeps {h h':Heap}{k:bc}{a d:Addr}{o:Obj}{es:Array DictEntry}{ep:Nat}(hk:bZ P w h k a)(hd:h.get? d=some o)(he:o.data = .dict es ep)(hs:Heap.SameBut d h h'):bZ P w h' k a:=by
 obtain⟨ob,items,n,b,t,g,hc,fg,hi,kb⟩:=hk;have cN:a≠d:=by intro e;subst e;rw[g] at hd;cases hd;rw[fg] at he;cases he
 exact⟨ob,items,n,b,t,by rw[<-g];exact hs.2 _ cN,hc,fg,hi,IsTupleKey.keeps kb hd he hs⟩
theorem zb {α:Type}[DecidableEq α](a b:α):(a==b)=decide (a=b):=by
 by_cases h:a=b
 .subst h;simp
 .rw[decide_eq_false h];exact beq_eq_false_iff_ne.mpr h
theorem yR {k:Key}{v:Value}(h:(aR P w).is k v=true):RelV (kV k) v:=by
 rcases cZ h with⟨i,t,rfl,rfl⟩|⟨x,t,rfl,rfl⟩
 .exact⟨t,rfl⟩
 .exact⟨t,rfl⟩
theorem Ee {A:Around}{s:Sh}{k l:Key}{u v:Value}(h:(aR P w).is k u=true)(h':(aR P w).is l v=true):EqAt A s u v (decide (k=l)):=by
 have e:Ci (kV k) (kV l)=decide (k=l):=by cases k<;>cases l<;>simp[kV,Ci,zb]
 rw[<-e];exact BC (yR h) (yR h') (by cases k<;>rfl) (by cases l<;>rfl)
theorem pR {ks:List Key}{vs:List Value}(h:ItemsAre (aR P w) ks vs){j:Nat}{v:Value}(e:vs[j]?=some v):∃k,ks[j]?=some k/\(aR P w).is k v=true:=by
 induction h generalizing j with
 | nil=>simp at e
 | cons hk _ ih=>
  cases j with
  | zero=>simp at e;subst e;exact⟨_,rfl,hk⟩
  | succ j=>exact ih (by simpa using e)
theorem tI {ks:List Key}{vs:List Value}(h:ItemsAre (aR P w) ks vs):ks.length=vs.length:=by
 induction h with
 | nil=>rfl
 | cons _ _ ih=>simp[ih]
theorem all_keys (xs ys:List Key):((List.range (min xs.length ys.length)).all (λj=>decide (xs[j]?=ys[j]?))&&xs.length==ys.length)=decide (xs=ys):=by
 rw[Bool.eq_iff_iff];simp only[Bool.and_eq_true,List.all_eq_true,List.mem_range,decide_eq_true_eq,beq_iff_eq];constructor
 .rintro⟨h1,h2⟩;refine List.ext_getElem? λi=>?_
  by_cases hi:i<xs.length
  .exact h1 i (by omega)
  .rw[List.getElem?_eq_none (by omega),List.getElem?_eq_none (by omega)]
 .rintro rfl;exact⟨λ_ _=>rfl,rfl⟩
theorem Ey {A:Around}{s:Sh}{x y:List Key}{a b:Addr}(hr:A.units<cLine)(hx:IsTupleKey (aR P w) s.heap x a)(hy:IsTupleKey (aR P w) s.heap y b):EqAt A s (.ref a) (.ref b) (decide (x=y)):=by
 by_cases pM:a=b
 .subst pM;rw[IsTupleKey.inj hx hy,decide_eq_true rfl];exact EqAt.same _
 .obtain⟨o,ai,n,g,hc,hd,hi⟩:=hx;obtain⟨o',its',n',g',mG,jo,mJ⟩:=hy;have l1:=tI hi;have l2:=tI mJ;have l1:x.length=ai.size:=l1.trans Array.length_toList;have l2:y.length=its'.size:=l2.trans Array.length_toList;have:=RcAt.tuples (A:=A) (e:=λj=>decide (x[j]?=y[j]?)) ⟨o,g,hc,n,hd⟩ ⟨o',g',mG,n',jo⟩ hr λj h1 h2=>by obtain⟨k,e1,k1⟩:=pR hi (j:=j) (v:=ai[j]) (by simp[h1]);obtain⟨l,e2,k2⟩:=pR mJ (j:=j) (v:=its'[j]) (by simp[h2]);rw[e1,e2];have:=Ee (A:=A.in1) (s:=s) k1 k2;simpa using this
  rw[<-l1,<-l2,all_keys] at this;exact .of_refs pM this
theorem z6 {A:Around}{E:Value->Sh->Prop}{s:Sh}{x y:bc}{a b:Addr}{Q:Bool->Sh->Prop}(hr:A.units+1<cLine)(hx:bZ P w s.heap x a)(hy:bZ P w s.heap y b)
 (q:Q (decide (x=y)) s):wpAny (model P w) A (eqBool (.ref a) (.ref b)) Q E s:=by
 have:EqAt A s (.ref a) (.ref b) (decide (x=y)):=by
  by_cases pM:a=b
  .subst pM;rw[bZ.inj hx hy,decide_eq_true rfl];exact EqAt.same _
  .obtain⟨o,ai,n,c,t,g,hc,hd,rfl,kb⟩:=hx;obtain⟨o',its',n',c',t',g',mG,jo,rfl,kb'⟩:=hy;have:=RcAt.tuples (A:=A) (e:=λj=>if j=0 then decide (x.1=y.1) else decide (x.2=y.2)) ⟨o,g,hc,n,hd⟩ ⟨o',g',mG,n',jo⟩ (by omega) λj h1 h2=>by
    match j,h1,h2 with
    | 0,_,_=>exact Ey (by rw[in1_units];exact hr) kb kb'
    | 1,_,_=>have:=EqAt.int_int (A:=A.in1) (s:=s) x.2 t y.2 t';rw[zb] at this;exact this
   have e:(List.range (min (#[Value.ref c,Value.int x.2 t].size) (#[Value.ref c',Value.int y.2 t'].size))).all (λj=>if j=0 then decide (x.1=y.1) else decide (x.2=y.2))=decide (x=y):=by obtain⟨x1,x2⟩:=x;obtain⟨y1,y2⟩:=y;rw[Bool.eq_iff_iff];simp[List.range,List.range.loop]
   rw[e] at this;simpa using EqAt.of_refs pM this
 exact this _ _ _ _ q
theorem wN {A:Around}{E:Value->Sh->Prop}{s:Sh}{ks:List Key}{a:Addr}{Q:Bool->Sh->Prop}(n:Nat)(hk:IsTupleKey (aR P w) s.heap ks a)(q:Q true s):wpAny (model P w) A (eqIsQuiet (n+1) (.ref a)) Q E s:=by
 have ty:=IsTupleKey.typeIs hk;obtain⟨o,ai,m,g,hc,hd,hi⟩:=hk;unfold eqIsQuiet;refine wpAny_bind (wpAny_specialOf ty F.slot_tuple_eq.lookup ?_);refine wpAny_bind (wpAny_isInstance ty isSubtype_tuple_tuple ?_);refine wpAny_bind (wpAny_seqItems g hd ?_);refine wpAny_bind ?_;show wpAny _ _ (forIn ai (none,()) _) _ _ _;rw[<-Array.forIn_toList];refine wpAny_forIn_list _ (λl b s'=>(∀v∈l,carriedByValue v=true)/\b=(none,())/\s'=s) _ ?_ ?_ _ _ ⟨?_,rfl,rfl⟩
 .rintro x rest b s' ⟨h1,rfl,rfl⟩;rw[eqIsQuiet_byValue _ (h1 x (List.mem_cons_self ..))];refine wpAny_bind (wpAny_pure (wpAny_pure ?_));exact⟨λv hv=>h1 v (List.mem_cons_of_mem _ hv),rfl,rfl⟩
 .rintro b s' ⟨_,rfl,rfl⟩;exact wpAny_pure q
 .intro v hv;obtain⟨j,hj⟩:=List.getElem?_of_mem hv;obtain⟨k,_,hk⟩:=pR hi hj;exact(aR P w).byValue k v hk
theorem uT {A:Around}{E:Value->Sh->Prop}{s:Sh}{k:bc}{a:Addr}{Q:Bool->Sh->Prop}(hk:bZ P w s.heap k a)(q:Q true s):wpAny (model P w) A (eqIsQuiet 8 (.ref a)) Q E s:=by have ty:=hk.typeIs;obtain⟨o,items,n,b,t,g,hc,hd,rfl,kb⟩:=hk;unfold eqIsQuiet;refine wpAny_bind (wpAny_specialOf ty F.slot_tuple_eq.lookup ?_);refine wpAny_bind (wpAny_isInstance ty isSubtype_tuple_tuple ?_);refine wpAny_bind (wpAny_seqItems g hd ?_);refine wpAny_bind ?_;show wpAny _ _ (forIn #[Value.ref b,Value.int k.2 t] (none,()) _) _ _ _;rw[<-Array.forIn_toList];show wpAny _ _ (forIn [Value.ref b,Value.int k.2 t] (none,()) _) _ _ _;simp only[List.forIn_cons,List.forIn_nil];refine wpAny_bind (wpAny_bind (wN 6 kb ?_));refine wpAny_pure ?_;rw[eqIsQuiet_byValue _ (show carriedByValue (Value.int k.2 t)=true from rfl)];refine wpAny_bind (wpAny_bind (wpAny_pure (wpAny_pure (wpAny_pure (wpAny_pure q)))))
def fP (P:Program)(w:World):HeapKind P w bc where
 is:=bZ P w
 hash:=dE P w
 draws:=λk=>k.1.length+3
 room:=λA=>A.units+1<cLine
 inj:=bZ.inj
 keeps:=bZ.keeps
 pyHash:=vH
 eqBool:=z6
 quiet:=uT
end
abbrev PD (hs:bc->Int)(a:Addr)(xs:List (bc×Addr×Value)):HO:=.ext λh=>(a==sysModules)=false/\xs.length<=sizeLine/\(xs.map (·.1)).Nodup /\
 ∃o es ep,h.get? a=some o/\o.ExactDict/\o.data = .dict es ep/\es.toList=xs.map λx=>(⟨hs x.1,.ref x.2.1,x.2.2⟩:DictEntry)
theorem ID (hs:bc->Int)(a:Addr)(xs:List (bc×Addr×Value))(q:Str)(c:Addr):PD hs a xs≠Ah q c:=by
 intro e;have e:=HO.ext.inj e
 let ob:Obj:={ cls:=.type "code",data:=.fields #[.none,.str q 0] }
 let h:Heap:={ objs:=Array.replicate (c+1) ob }
 have g:∀b o,h.get? b=some o->o=ob:=by
  intro b o hb;unfold Heap.get? at hb;have:h.objs[b]?=if b<c+1 then some ob else none:=Array.getElem?_replicate;rw[this] at hb
  by_cases z:b<c+1
  .rw[if_pos z] at hb;exact(Option.some.inj hb).symm
  .rw[if_neg z] at hb;cases hb
 have gc:h.get? c=some ob:=by unfold Heap.get?;have:h.objs[c]?=if c<c+1 then some ob else none:=Array.getElem?_replicate;rw[this,if_pos (Nat.lt_succ_self c)]
 have:h.CodeRec (.ref c) q:=⟨c,ob,_,0,rfl,gc,rfl,rfl⟩;rw[<-congrFun e h] at this;obtain⟨_,_,_,o,es,ep,g1,g2,g3,_⟩:=this;rw[g a o g1] at g3;cases g3
def fv (H:Hp)(k:bc)(b:Addr):Prop:=∃c,H b=some (.tup [.ref c,.int k.2])/\H c=some (.tup (k.1.map kV))
abbrev KP (H:Hp):List (bc×V)->List (bc×Addr×Value)->Prop:=Paired λp q=>p.1=q.1/\fv H p.1 q.2.1/\RelV p.2 q.2.2
theorem KP.val {H:Hp}{af:List (bc×V)}{xs:List (bc×Addr×Value)}(r:KP H af xs)(k:bc):fD (cX af k) ((atKey xs k).map (·.2)):=by
 induction r with
 | nil=>exact True.intro
 | @cons p q ps qs h t ih=>
  obtain⟨h1,_,h2⟩:=h
  by_cases e:p.1=k
  .have e':q.1=k:=h1.symm.trans e;have b:atKey (q::qs) k=some q.2:=by simp[atKey,List.find?_cons,e']
   rw[jO e,b];exact h2
  .have e':¬q.1=k:=λz=>e (h1.trans z);have b:atKey (q::qs) k=atKey qs k:=by simp[atKey,List.find?_cons,e']
   rw[jY e,b];exact ih
theorem KP.wZ {H:Hp}{af:List (bc×V)}{xs:List (bc×Addr×Value)}(r:KP H af xs)(k:bc){y:V}{u:Value}(ry:RelV y u):
 KP H (af.map λkv=>if kv.1=k then (kv.1,y) else kv) (xs.map (putAt k u)):=by
 induction r with
 | nil=>exact .nil
 | @cons p q ps qs h t ih=>
  rw[List.map_cons,List.map_cons];refine .cons ?_ ih;obtain⟨h1,h2,h3⟩:=h;unfold putAt
  by_cases e:p.1=k
  .rw[if_pos e,if_pos (h1.symm.trans e)];exact⟨h1,h2,ry⟩
  .rw[if_neg e,if_neg (λz=>e (h1.trans z))];exact⟨h1,h2,h3⟩
theorem KP.put {H:Hp}{af:List (bc×V)}{xs:List (bc×Addr×Value)}(r:KP H af xs)(k:bc){b:Addr}{y:V}{u:Value}(hb:fv H k b)(ry:RelV y u):
 KP H (putK af k y) (storedH xs k b u):=by
 have e:(af.any λkv=>decide (kv.1=k))=(atKey xs k).isSome:=by rw[qc,(r.val k).fO,Option.isSome_map]
 unfold putK storedH;rw[e]
 by_cases q:(atKey xs k).isSome=true
 .rw[if_pos q,if_pos q];exact r.wZ k ry
 .rw[if_neg q,if_neg q];exact Paired.snoc r ⟨rfl,hb,ry⟩
theorem fv.keeps {H H':Hp}{k:bc}{b:Addr}(h:fv H k b)(ht:∀b ys,H b=some (.tup ys)->H' b=some (.tup ys)):fv H' k b:=by obtain⟨c,h1,h2⟩:=h;exact⟨c,ht _ _ h1,ht _ _ h2⟩
theorem KP.keeps {H H':Hp}{af:List (bc×V)}{xs:List (bc×Addr×Value)}(r:KP H af xs)(ht:∀b ys,H b=some (.tup ys)->H' b=some (.tup ys)):KP H' af xs:=
 Paired.nS r λ_ _ z=>⟨z.1,z.2.1.keeps ht,z.2.2⟩
section
variable {P:Program}{w:World}{H:Hp}{h:Heap}{a:Addr}
theorem sR {k:bc}{b:Addr}(ok:aL P w H h)(e:fv H k b):(fP P w).is h k b:=by
 obtain⟨c,h1,h2⟩:=e;obtain⟨_,ai,r,o,g1,g2,n,g3⟩:=(show aV P w H h b (.tup [.ref c,.int k.2]) from ok b _ h1);cases r with
 | cons r1 t1=>
  cases t1 with
  | cons r2 t2=>cases t2;cases r1;obtain⟨t,rfl⟩:=r2;exact⟨o,_,n,c,t,g1,g2,g3,rfl,iU ok h2⟩
theorem Gx {xs:List (bc×Addr×Value)}{af:List (bc×V)}(ok:aL P w H h)(e:H a=some (PD (dE P w) a xs))(r:KP H af xs):(a==sysModules)=false/\xs.length<=sizeLine/\h.DictOfH (fP P w) a xs:=by
 obtain⟨⟨h1,h2,h3,o,es,ep,g1,g2,g3,g4⟩,_⟩:=(show aV P w H h a (PD (dE P w) a xs) from ok a _ e);refine⟨h1,h2,o,es,ep,g1,g2,g3,g4,λx hx=>?_,h3⟩;have all:∀{l:List (bc×V)} {m:List (bc×Addr×Value)},KP H l m->∀x∈m,(fP P w).is h x.1 x.2.1:=by
  intro l m q
  induction q with
  | nil=>intro x hx;exact nomatch hx
  | @cons p q ps qs hq t ih=>
   intro x hx;rcases List.mem_cons.mp hx with e | hx
   .subst e;exact sR ok (by rw[<-hq.1];exact hq.2.1)
   .exact ih x hx
 exact all r x hx
theorem NP {xs:List (bc×Addr×Value)}{H':Hp}(hz:xs.length<=sizeLine)(hd:(a==sysModules)=false)(dd:h.DictOfH (fP P w) a xs):aV P w H' h a (PD (dE P w) a xs):=by obtain⟨o,es,ep,g1,g2,g3,g4,_,g5⟩:=dd;refine⟨⟨hd,hz,g5,o,es,ep,g1,g2,g3,g4⟩,⟨o,g1⟩,?_⟩;rintro h1 h2 ⟨q1,q2,q3,o,es,ep,k1,k2,k3,k4⟩ k;exact⟨q1,q2,q3,o,es,ep,k o k1,k2,k3,k4⟩
end
section
variable {X:Cx}{pins:List (Addr×Obj)}{σ:St}{H:Hp}{s:Sh}{a b:Addr}{A:Around}{E:Value->Sh->Prop}{xs:List (bc×Addr×Value)}{af:List (bc×V)}{k:bc}
theorem qM (I:Inv X pins σ H s)(e:H a=some (.dK [])\/H a=some (.dT [])):(a==sysModules)=false/\s.heap.DictOfH (fP X.prog X.w) a []:=by
 rcases e with e | e
 .obtain⟨z,y,vs,r,o,es,ep,g,ex,d,kf,ps,nd⟩:=I.aw a _ e;have hv:vs=[]:=by cases r;rfl
  subst hv;have he:es.toList=[]:=by
   revert ps
   generalize es.toList=l;intro ps;cases ps;rfl
  exact⟨y,o,es,ep,g,ex,d,he,⟨λx hx=>absurd hx (List.not_mem_nil),List.nodup_nil⟩⟩
 .obtain⟨z,y,xs,r,o,es,ep,g,ex,d,he,nd⟩:=I.aw a _ e;have hv:xs=[]:=by cases r;rfl
  subst hv;exact⟨y,o,es,ep,g,ex,d,he,⟨λx hx=>absurd hx (List.not_mem_nil),List.nodup_nil⟩⟩
theorem Dc {o:Option V}{Q:Value->Sh->Prop}(hu:A.units+2<cLine)(I:Inv X pins σ H s)(hd:(a==sysModules)=false)(dd:s.heap.DictOfH (fP X.prog X.w) a xs)(eb:fv H k b)(l:fD o ((atKey xs k).map (·.2)))
 (h:∀w' s',Inv X pins σ H s'->RelV (o.getD .aj) w'->Q w' s'):wpAny (model X.prog X.w) A (call (.builtin "dict.get") [.ref a,.ref b]) Q E s:=by
 refine call_meetsIn PySem.F.slot_dict_get dd.typeIs PySem.F.entry_dict_get (PySem.F.args_dict_get_2 _ _) (meetsH_dict_get (fP X.prog X.w) a b hd) ⟨by show A.in1.units+1<cLine;rw[in1_units];omega,k,xs,sR I.aw eb,dd,?_⟩;refine h _ _ (I.tok _) ?_;cases o with
 | none=>
  cases q:(atKey xs k).map (·.2) with
  | none=>exact rfl
  | some v=>rw[q] at l;exact l.elim
 | some v=>
  cases q:(atKey xs k).map (·.2) with
  | none=>rw[q] at l;exact l.elim
  | some u=>rw[q] at l;exact l
theorem Bo {y:V}{r:Value}{Q:Unit->Sh->Prop}(hu:A.units+2<cLine)(I:Inv X pins σ H s)(mu:yx (H a))(ht:∀ys,H a≠some (.tup ys))(hd:(a==sysModules)=false)(dd:s.heap.DictOfH (fP X.prog X.w) a xs)(hz:xs.length<sizeLine)(eb:fv H k b)(rv:RelV y r)
 (h:∀s',Inv X pins σ (upd H a (PD (dE X.prog X.w) a (storedH xs k b r))) s'->Q () s'):wpAny (model X.prog X.w) A (setItem (.ref a) (.ref b) r) Q E s:=by
 refine wpAny_setItem_heap (hsz:=by omega) (by show A.in1.units+1<cLine;rw[in1_units];omega) (sR I.aw eb) dd λh' mH hs=>h _ ?_;have hl:(storedH xs k b r).length<=sizeLine:=by
  unfold storedH;split
  .rw[List.length_map];omega
  .rw[List.length_append,List.length_singleton];omega
 exact kU I mu hs (let ⟨q,_,_,hq,_⟩:=mH;⟨q,hq⟩) (NP hl hd mH)
end
end L2
namespace RF
open PySem
inductive D where
 | aj | bl (b:Bool) | int (i:Int) | str (x:Str) | tup (xs:List D) | ref (n:Nat)
mutual
noncomputable def D.dec:(a b:D)->Decidable (a=b)
 | .aj,.aj=>.isTrue rfl
 | .bl a,.bl b=>if h:a=b then .isTrue (h ▸ rfl) else .isFalse λe=>h (by cases e;rfl)
 | .int a,.int b=>if h:a=b then .isTrue (h ▸ rfl) else .isFalse λe=>h (by cases e;rfl)
 | .str a,.str b=>if h:a=b then .isTrue (h ▸ rfl) else .isFalse λe=>h (by cases e;rfl)
 | .tup a,.tup b=>match D.KG a b with
  | .isTrue h=>.isTrue (h ▸ rfl)
  | .isFalse h=>.isFalse λe=>h (by cases e;rfl)
 | .ref a,.ref b=>if h:a=b then .isTrue (h ▸ rfl) else .isFalse λe=>h (by cases e;rfl)
 | .aj,.bl _ | .aj,.int _ | .aj,.str _ | .aj,.tup _ | .aj,.ref _=>.isFalse nofun
 | .bl _,.aj | .bl _,.int _ | .bl _,.str _ | .bl _,.tup _ | .bl _,.ref _=>.isFalse nofun
 | .int _,.aj | .int _,.bl _ | .int _,.str _ | .int _,.tup _ | .int _,.ref _=>.isFalse nofun
 | .str _,.aj | .str _,.bl _ | .str _,.int _ | .str _,.tup _ | .str _,.ref _=>.isFalse nofun
 | .tup _,.aj | .tup _,.bl _ | .tup _,.int _ | .tup _,.str _ | .tup _,.ref _=>.isFalse nofun
 | .ref _,.aj | .ref _,.bl _ | .ref _,.int _ | .ref _,.str _ | .ref _,.tup _=>.isFalse nofun
noncomputable def D.KG:(a b:List D)->Decidable (a=b)
 | [],[]=>.isTrue rfl
 | [],_::_=>.isFalse nofun
 | _::_,[]=>.isFalse nofun
 | x::xs,y::ys=>match D.dec x y,D.KG xs ys with
  | .isTrue h1,.isTrue h2=>.isTrue (by rw[h1,h2])
  | .isFalse h,_=>.isFalse λe=>h (by cases e;rfl)
  | _,.isFalse h=>.isFalse λe=>h (by cases e;rfl)
end
noncomputable instance:DecidableEq D:=D.dec
inductive O where
 | lst (xs:List D) | cw (xs:List D) | aG (af:List (D×D)) | dC (af:List (D×D)) | jr (af:List (D×D)) | obj (c:Nat) (fs:List (Nat×D))
noncomputable abbrev ae:=List O
inductive R (α:Type) where
 | ok (a:α) (S:ae) | bad
noncomputable def R.bind {α β:Type}(r:R α)(f:α->ae->R β):R β:=match r with
 | .ok a S=>f a S
 | .bad=>.bad
@[simp] theorem R.bY {α β:Type}(a:α)(S:ae)(f:α->ae->R β):(R.ok a S).bind f=f a S:=rfl
noncomputable abbrev Env:=List (Option D)
noncomputable abbrev C (α:Type):=Env->ae->R α
noncomputable def C.bind {α β:Type}(c:C α)(f:α->C β):C β:=λρ S=>(c ρ S).bind λa S1=>f a ρ S1
noncomputable def aW {α:Type}:C α:=λ_ _=>.bad
noncomputable def aB {α:Type}(b:Bool)(r:R α):R α:=if b=true then r else .bad
noncomputable def itemsOf (S:ae):D->Option (List D)
 | .tup xs=>some xs
 | .ref n=>match S[n]? with
  | some (.lst xs)=>some xs
  | some (.cw xs)=>some xs
  | _=>none
 | _=>none
noncomputable def kvsOf (S:ae):D->Option (List (D×D))
 | .ref n=>match S[n]? with
  | some (.aG af)=>some af
  | some (.dC af)=>some af
  | _=>none
 | _=>none
noncomputable def kP (S:ae):D->Option Bool
 | .aj=>some false
 | .bl b=>some b
 | .int i=>some (i != 0)
 | .tup xs=>some (!xs.isEmpty)
 | .ref n=>match S[n]? with
  | some (.lst xs)=>some (!xs.isEmpty)
  | some (.cw xs)=>some (!xs.isEmpty)
  | _=>none
 | .str _=>none
noncomputable def cM:D->Bool
 | .aj | .bl _ | .int _ | .str _=>true
 | _=>false
noncomputable def j9:D->D->Bool
 | .aj,.aj=>true
 | .bl a,.bl b=>a==b
 | .bl a,.int b=>(if a then 1 else 0)==b
 | .int a,.bl b=>a==(if b then 1 else 0)
 | .int a,.int b=>a==b
 | .str a,.str b=>a==b
 | _,_=>false
noncomputable def jh (f:D->D->Option Bool):List D->List D->Option Bool
 | x::xs,y::ys=>match f x y,jh f xs ys with
  | some a,some b=>some (a&&b)
  | _,_=>none
 | _,_=>some true
noncomputable def cH (S:ae):Nat->D->D->Option Bool
 | 0,_,_=>none
 | n+1,.tup xs,.tup ys=>(jh (cH S n) xs ys).map λb=>b&&xs.length==ys.length
 | _+1,.tup _,b=>if cM b=true then some false else none
 | n+1,.ref i,.ref j=>match S[i]?,S[j]? with
  | some (.lst xs),some (.lst ys)=>if xs.length=ys.length then jh (cH S n) xs ys else some false
  | _,_=>none
 | _+1,a,.tup _=>if cM a=true then some false else none
 | _+1,a,b=>if cM a&&cM b then some (j9 a b) else none
noncomputable def iQ (S:ae)(n:Nat)(a b:D):Option Bool:=match a,b with
 | .ref i,.ref j=>match S[i]?,S[j]? with
  | some (.cw xs),some (.lst [])=>some xs.isEmpty
  | _,_=>cH S n a b
 | _,_=>cH S n a b
noncomputable def qP (n:Nat)(i:Int):Option Nat:=if 0<=i then (if i<n then some i.toNat else none) else if -(n:Int)<=i then some (i+n).toNat else none
noncomputable def jk (xs:List D)(i:Int):Option D:=(qP xs.length i).bind λj=>xs[j]?
noncomputable def aX (n d:Nat):Option Int->Nat
 | none=>d
 | some v=>if v<0 then (v+(n:Int)).toNat else min v.toNat n
noncomputable def cutD (xs:List D)(lo hi:Option Int):List D:=(xs.drop (aX xs.length 0 lo)).take (aX xs.length xs.length hi-aX xs.length 0 lo)
noncomputable def bB (af:List (D×D))(k:D):Option D:=(af.find? λkv=>decide (kv.1=k)).map (·.2)
noncomputable def putD (af:List (D×D))(k v:D):List (D×D):=if (af.any λkv=>decide (kv.1=k))=true then af.map λkv=>if kv.1=k then (kv.1,v) else kv else af++[(k,v)]
noncomputable def iP (af:List (D×D))(k:D):List (D×D):=af.filter λkv=>decide (kv.1≠k)
noncomputable def dr:D->Bool
 | .int _ | .str _=>true
 | _=>false
noncomputable def aY:D->Bool
 | .tup xs=>xs.all dr
 | _=>false
noncomputable def eE:D->Bool
 | .tup [a,.int _]=>aY a
 | _=>false
noncomputable def bX (af:List (D×D))(k:D):Bool:=(dr k&&af.all λkv=>dr kv.1)||(aY k&&af.all λkv=>aY kv.1)
noncomputable def kz (S:ae)(a k:D):Option (Option D):=match a with
 | .ref n=>match S[n]? with
  | some (.aG af)=>if bX af k then some (bB af k) else none
  | some (.dC af)=>if aY k then some (bB af k) else none
  | _=>none
 | _=>none
noncomputable def g9 (S:ae)(a:D):Bool:=(kvsOf S a).isSome
noncomputable def eg (f:Nat)(v:D):List (Nat×D)->List (Nat×D)
 | []=>[(f,v)]
 | (g,x)::r=>if g=f then (g,v)::r else (g,x)::eg f v r
noncomputable def fz (o:O)(S:ae):R D:=.ok (.ref S.length) (S++[o])
noncomputable def big (n:Nat):Bool:=decide (n<=sizeLine)
noncomputable def EK (a b:D)(S:ae):R D:=match a,b with
 | .int i,.int j=>.ok (.int (i+j)) S
 | .tup xs,.tup ys=>aB (big (xs.length+ys.length)) (.ok (.tup (xs++ys)) S)
 | .ref m,.ref n=>match S[m]?,S[n]? with
  | some (.lst xs),some (.lst ys)=>aB (big (xs.length+ys.length)) (fz (.lst (xs++ys)) S)
  | _,_=>.bad
 | _,_=>.bad
noncomputable def ik (a b:Int):Bool:=decide (a.natAbs<2 ^ 64)||decide (b.natAbs<2 ^ 64)||(decide (a.natAbs<2 ^ 250)&&decide (b.natAbs<2 ^ 250))
noncomputable def Fd (a b:D)(S:ae):R D:=match a,b with
 | .int i,.int j=>aB (ik i j) (.ok (.int (i*j)) S)
 | .ref l,.int k=>match S[l]? with
  | some (.lst xs)=>aB (decide (-(2 ^ 63)<=k)&&decide (k<2 ^ 63)&&decide (xs.length*k.toNat<=sizeLine)) (fz (.lst (List.replicate k.toNat xs).flatten) S)
  | _=>.bad
 | _,_=>.bad
noncomputable def gw (op:Operator)(a b:D)(S:ae):R D:=match op,a,b with
 | .Add,a,b=>EK a b S
 | .Sub,.int i,.int j=>.ok (.int (i-j)) S
 | .Mult,a,b=>Fd a b S
 | .FloorDiv,.int i,.int j=>aB (decide (0<j)&&decide (j<2 ^ 250)) (.ok (.int (i / j)) S)
 | .Mod,.int i,.int j=>aB (decide (0<j)) (.ok (.int (i%j)) S)
 | .Pow,.int i,.int j=>aB (decide (i=10)&&(decide (j=18)||decide (j=9))) (.ok (.int (if j=18 then 1000000000000000000 else 1000000000)) S)
 | _,_,_=>.bad
noncomputable def depth:Nat:=8
noncomputable def bU:D->Bool
 | .tup xs=>many xs
 | .ref _=>false
 | _=>true
where many:List D->Bool
 | []=>true
 | x::xs=>bU x&&many xs
noncomputable def kL (f:D->Option Bool):List D->Option Bool
 | []=>some false
 | x::xs=>match f x,kL f xs with
  | some a,some b=>some (a||b)
  | _,_=>none
noncomputable def inD (S:ae)(x:D)(y:D):Option Bool:=if g9 S y=true then (kz S y x).map Option.isSome else match itemsOf S y with
 | some ys=>if bU x&&bU.many ys then kL (λz=>cH S 4 z x) ys else none
 | none=>match x,y with
  | .str x,.str y=>some (!(Builtin.Str.occurrences y x 0 y.length 1).isEmpty)
  | _,_=>none
noncomputable def eo (o:Option Bool)(S:ae):R D:=match o with | some b=>.ok (.bl b) S | none=>.bad
noncomputable def a7 (op:CmpOp)(a b:D)(S:ae):R D:=match op with
 | .Eq=>eo (iQ S depth a b) S
 | .NotEq=>eo ((iQ S depth a b).map (! ·)) S
 | .Lt=>match a,b with | .int i,.int j=>.ok (.bl (decide (i<j))) S | _,_=>.bad
 | .LtE=>match a,b with | .int i,.int j=>.ok (.bl (decide (i<=j))) S | _,_=>.bad
 | .Gt=>match a,b with | .int i,.int j=>.ok (.bl (decide (j<i))) S | _,_=>.bad
 | .GtE=>match a,b with | .int i,.int j=>.ok (.bl (decide (j<=i))) S | _,_=>.bad
 | .Is=>if b = .aj then .ok (.bl (decide (a = .aj))) S else .bad
 | .IsNot=>if b = .aj then .ok (.bl (!decide (a = .aj))) S else .bad
 | .In=>eo (inD S a b) S
 | .NotIn=>eo ((inD S a b).map (! ·)) S
noncomputable def dq (a i:D)(S:ae):R D:=if g9 S a=true then (match kz S a i with | some (some v)=>.ok v S | _=>.bad) else match itemsOf S a,i with
 | some xs,.int k=>match jk xs k with | some v=>.ok v S | none=>.bad
 | _,_=>.bad
noncomputable def rJ (a:D)(lo hi:Option Int)(S:ae):R D:=match a with
 | .tup xs=>(.ok (.tup (cutD xs lo hi)) S)
 | .ref n=>match itemsOf S (.ref n) with
  | some xs=>fz (.lst (cutD xs lo hi)) S
  | none=>.bad
 | _=>.bad
noncomputable def dF (a i v:D)(S:ae):R Unit:=match a with
 | .ref n=>match S[n]?,i with
  | some (.lst xs),.int k=>match qP xs.length k with | some j=>.ok () (S.set n (.lst (xs.set j v))) | none=>.bad
  | some (.aG af),k=>if eE k=true then aB af.isEmpty (.ok () (S.set n (.jr [(k,v)]))) else aB (bX af k&&decide (af.length<sizeLine)) (.ok () (S.set n (.aG (putD af k v))))
  | some (.jr af),k=>aB (eE k&&decide (af.length<sizeLine)) (.ok () (S.set n (.jr (putD af k v))))
  | _,_=>.bad
 | _=>.bad
noncomputable def jV (a i:D)(S:ae):R Unit:=match a with
 | .ref n=>match S[n]? with
  | some (.aG af)=>aB (bX af i&&(bB af i).isSome) (.ok () (S.set n (.aG (iP af i))))
  | _=>.bad
 | _=>.bad
noncomputable def nH (a:D)(f:Nat)(S:ae):R D:=match a with
 | .ref n=>match S[n]? with
  | some (.obj _ fs)=>match fs.lookup f with | some v=>.ok v S | none=>.bad
  | _=>.bad
 | _=>.bad
noncomputable def iV (pl:Nat->Nat->Bool)(a:D)(f:Nat)(v:D)(S:ae):R Unit:=match a with
 | .ref n=>match S[n]? with
  | some (.obj c fs)=>aB (decide (fs.length<900)&&pl c f) (.ok () (S.set n (.obj c (eg f v fs))))
  | _=>.bad
 | _=>.bad
inductive Kd where | int | bool | str | tuple | list
 deriving DecidableEq
noncomputable def nk (S:ae)(k:Kd):D->Option Bool
 | .aj=>some false
 | .bl _=>some (k == .int||k == .bool)
 | .int _=>some (k == .int)
 | .str _=>some (k == .str)
 | .tup _=>some (k == .tuple)
 | .ref n=>match S[n]? with
  | some (.lst _)=>some (k == .list)
  | _=>none
noncomputable def ny (S:ae):D->Option Nat
 | .str x=>if x.length<=sizeLine then some x.length else none
 | a=>match kvsOf S a with
  | some af=>some af.length
  | none=>(itemsOf S a).map List.length
noncomputable def bools:List D->Option (List Bool)
 | []=>some []
 | .bl b::r=>(bools r).map (b :: ·)
 | _=>none
noncomputable def iR:List D->Option (List Int)
 | []=>some []
 | .int i::r=>(iR r).map (i :: ·)
 | _=>none
inductive B where | len | max2 | min2 | tuple | list
 deriving DecidableEq
noncomputable def cx (b:B)(vs:List D)(S:ae):R D:=match b,vs with
 | .len,[a]=>match ny S a with | some n=>.ok (.int n) S | none=>.bad
 | .max2,[.int i,.int j]=>.ok (.int (if j > i then j else i)) S
 | .min2,[.int i,.int j]=>.ok (.int (if j<i then j else i)) S
 | .tuple,[a]=>match itemsOf S a with | some xs=>.ok (.tup xs) S | none=>.bad
 | .list,[a]=>match kvsOf S a with
  | some af=>aB ((af.all λkv=>aY kv.1) && !af.isEmpty) (fz (.lst (af.map (·.1))) S)
  | none=>match itemsOf S a with | some xs=>fz (.lst xs) S | none=>.bad
 | _,_=>.bad
noncomputable def unlike (is:List Int):Nat:=(is.foldl (λσ k=>if σ.any (· == k) then σ else σ++[k]) []).length
noncomputable def lg (a:D)(S:ae):R D:=match a with
 | .ref n=>match S[n]? with
  | some (.lst xs)=>match iR xs with
   | some is=>aB (decide (is.length<=1000)) (.ok (.int (unlike is)) S)
   | none=>.bad
  | _=>.bad
 | _=>.bad
inductive Mt where | append | pop | get | qx | extend | remove | insert
 deriving DecidableEq
noncomputable def vS:Mt->O->Bool
 | .append,.lst _=>true
 | .pop,.aG _=>true
 | .get,.aG _=>true
 | .get,.jr _=>true
 | .qx,.aG _=>true
 | .extend,.lst _=>true
 | .remove,.lst _=>true
 | .insert,.lst _=>true
 | _,_=>false
noncomputable def n6 (n:Nat)(vs:List D)(S:ae):R D:=match S[n]?,vs with
 | some (.lst xs),[v]=>aB (decide (xs.length<sizeLine)) (.ok .aj (S.set n (.lst (xs++[v]))))
 | _,_=>.bad
noncomputable def zO (n:Nat)(vs:List D)(S:ae):R D:=match S[n]?,vs with
 | some (.aG af),[k]=>aB (aY k&&bX af k) (match bB af k with | some v=>.ok v (S.set n (.aG (iP af k))) | none=>.bad)
 | _,_=>.bad
noncomputable def sL (n:Nat)(vs:List D)(S:ae):R D:=match S[n]?,vs with
 | some (.aG af),[k]=>aB (eE k&&af.isEmpty) (.ok .aj S)
 | some (.jr af),[k]=>aB (eE k) (.ok ((bB af k).getD .aj) S)
 | _,_=>.bad
noncomputable def vd (n:Nat)(vs:List D)(S:ae):R D:=match S[n]?,vs with
 | some (.aG af),[k,d]=>aB (aY k&&bX af k) (.ok ((bB af k).getD d) S)
 | _,_=>.bad
noncomputable def iL (n:Nat)(vs:List D)(S:ae):R D:=match S[n]?,vs with
 | some (.lst xs),[.ref m]=>match S[m]? with
  | some (.lst ys)=>aB (big (xs.length+ys.length)) (.ok .aj (S.set n (.lst (xs++ys))))
  | _=>.bad
 | _,_=>.bad
noncomputable def oj (n:Nat)(vs:List D)(S:ae):R D:=match S[n]?,vs with
 | some (.lst xs),[.int i]=>match iR xs with
  | some is=>aB (decide (i∈is)) (.ok .aj (S.set n (.lst ((is.erase i).map .int))))
  | none=>.bad
 | _,_=>.bad
noncomputable def om (n:Nat)(vs:List D)(S:ae):R D:=match S[n]?,vs with
 | some (.lst xs),[.int i,v]=>aB (decide (0<=i)&&decide (i.toNat<=xs.length)&&decide (xs.length<1000)) (.ok .aj (S.set n (.lst (xs.take i.toNat++v::xs.drop i.toNat))))
 | _,_=>.bad
noncomputable def rG:Mt->Nat->List D->ae->R D
 | .append=>n6
 | .pop=>zO
 | .get=>sL
 | .qx=>vd
 | .extend=>iL
 | .remove=>oj
 | .insert=>om
noncomputable def fE (m:Mt)(a:D)(vs:List D)(S:ae):R D:=match a with
 | .ref n=>rG m n vs S
 | _=>.bad
noncomputable def aa (i:Nat):C D:=λρ S=>match ρ[i]? with
 | some (some d)=>.ok d S
 | _=>.bad
noncomputable def cE (d:D):C D:=λ_ S=>.ok d S
noncomputable def AX (f:D->D->ae->R D)(a b:C D):C D:=λρ S=>(a ρ S).bind λx S1=>(b ρ S1).bind λy S2=>f x y S2
noncomputable def bz (op:Operator):C D->C D->C D:=AX (gw op)
noncomputable def aC (op:CmpOp):C D->C D->C D:=AX (a7 op)
noncomputable def boolOf (d:D)(S:ae):R Bool:=match d with | .bl b=>.ok b S | _=>.bad
noncomputable def truthOf (d:D)(S:ae):R Bool:=match kP S d with | some b=>.ok b S | none=>.bad
noncomputable def iq (o1 o2:CmpOp)(a b c:C D):C D:=λρ S=>(a ρ S).bind λx S1=>(b ρ S1).bind λy S2=>(a7 o1 x y S2).bind λr S3=>(boolOf r S3).bind λt S4=>if t=true then (c ρ S4).bind λz S5=>a7 o2 y z S5 else .ok (.bl false) S4
noncomputable def Mo (a:C D):C D:=λρ S=>(a ρ S).bind λx S1=>match x with | .int i=>.ok (.int (-i)) S1 | _=>.bad
noncomputable def E5 (a:C D):C D:=λρ S=>(a ρ S).bind λx S1=>(boolOf x S1).bind λb S2=>.ok (.bl (!b)) S2
noncomputable def j4 (a b:C D):C D:=λρ S=>(a ρ S).bind λx S1=>(boolOf x S1).bind λt S2=>if t=true then b ρ S2 else .ok (.bl false) S2
noncomputable def G9 (a b:C D):C D:=λρ S=>(a ρ S).bind λx S1=>(boolOf x S1).bind λt S2=>if t=true then .ok (.bl true) S2 else b ρ S2
noncomputable def rR (c:C Bool)(a b:C D):C D:=λρ S=>(c ρ S).bind λt S1=>if t=true then a ρ S1 else b ρ S1
noncomputable def b8:List (C D)->C (List D)
 | []=>λ_ S=>.ok [] S
 | c::cs=>λρ S=>(c ρ S).bind λx S1=>(b8 cs ρ S1).bind λxs S2=>.ok (x::xs) S2
noncomputable def ba (cs:List (C D)):C D:=λρ S=>aB (big cs.length) ((b8 cs ρ S).bind λxs S1=>.ok (.tup xs) S1)
noncomputable def bT (cs:List (C D)):C D:=λρ S=>aB (big cs.length) ((b8 cs ρ S).bind λxs S1=>fz (.lst xs) S1)
noncomputable def g8:C D:=λ_ S=>fz (.aG []) S
noncomputable def bh (a b:C D):C D:=AX dq a b
noncomputable def sG (c:Option (C D)):C (Option Int):=λρ S=>match c with
 | none=>.ok none S
 | some c=>(c ρ S).bind λx S1=>match x with | .int i=>.ok (some i) S1 | _=>.bad
noncomputable def fN (a:C D)(lo hi:Option (C D)):C D:=λρ S=>(a ρ S).bind λx S1=>(sG lo ρ S1).bind λl S2=>(sG hi ρ S2).bind λh S3=>rJ x l h S3
noncomputable def aE (a:C D)(f:Nat):C D:=λρ S=>(a ρ S).bind λx S1=>nH x f S1
noncomputable def ao (f:List D->ae->R D)(cs:List (C D)):C D:=λρ S=>(b8 cs ρ S).bind λxs S1=>f xs S1
noncomputable def nO (k:Kd)(a:C D):C D:=λρ S=>(a ρ S).bind λx S1=>eo (nk S1 k x) S1
noncomputable def aF (has:Nat->Nat->Bool)(call:Nat->Nat->List D->ae->R D)(m:Option Nat)(bm:Option Mt)(a:C D)(cs:List (C D)):C D:=λρ S=>(a ρ S).bind λx S1=>match x with
 | .ref n=>match S1[n]? with
  | some (.obj c fs)=>match m with
   | some m=>aB ((fs.lookup m).isNone&&has c m) ((b8 cs ρ S1).bind λxs S2=>call c m (x::xs) S2)
   | none=>.bad
  | some o=>match bm with
   | some b=>aB (vS b o) ((b8 cs ρ S1).bind λxs S2=>fE b x xs S2)
   | none=>.bad
  | none=>.bad
 | _=>.bad
noncomputable def dQ (_:Nat->Nat->Bool)(_:Nat->Nat->List D->ae->R D)(_:Option Nat)(a:C D):C D:=λρ S=>(a ρ S).bind λx S1=>cx .len [x] S1
noncomputable def n8 (kw:List (Str×D))(ks:List Str)(zs:List D):List D:=kw.map λp=>((ks.zip zs).lookup p.1).getD p.2
noncomputable def ie (init:List D->ae->R D)(c:Nat)(cs:List (C D))(kw:List (Str×D))(ks:List Str)(ds:List (C D)):C D:=λρ S=>(b8 cs ρ S).bind λxs S1=>(b8 ds ρ S1).bind λzs S2=>(init (.ref S2.length::xs++n8 kw ks zs) (S2++[.obj c []])).bind λr S3=>match r with | .aj=>.ok (.ref S2.length) S3 | _=>.bad
noncomputable def oM (a:C D):C D:=λρ S=>(a ρ S).bind λx S1=>lg x S1
inductive Src where
 | dyn (a:C D)
 | range (a:C D)
 | down (a:C D)
noncomputable def dZ (lo:Int)(n:Nat):List D:=(List.range n).map λ(k:Nat)=>.int (lo+(k:Int))
noncomputable def gG (n:Nat):List D:=(List.range (n+1)).map λ(k:Nat)=>.int ((n:Int)-(k:Int))
noncomputable def ic:List Nat->List D->Env->Option Env
 | [],[],ρ=>some ρ
 | i::is,d::ds,ρ=>ic is ds (ρ.set i (some d))
 | _,_,_=>none
noncomputable def oS (is:List Nat)(one:Bool)(d:D)(ρ:Env):Option Env:=if one then (match is with | [i]=>some (ρ.set i (some d)) | _=>none) else (match d with | .tup ds=>ic is ds ρ | _=>none)
noncomputable def bF {α:Type}(chk:ae->Bool)(is:List Nat)(one:Bool)(t:C Bool)(b:α->C α)(ρ:Env):List D->α->ae->R α
 | [],a,S=>if chk S=true then .ok a S else .bad
 | x::xs,a,S=>if chk S=true then (match oS is one x ρ with
  | some ρ1=>(t ρ1 S).bind λc S1=>if c=true then (b a ρ1 S1).bind λa1 S2=>bF chk is one t b ρ xs a1 S2 else bF chk is one t b ρ xs a S1
  | none=>.bad) else .bad
noncomputable def signs (z:Str):List D:=z.cps.toList.map λc=>.str ⟨#[c]⟩
noncomputable def e9 (a:D)(all:List D):ae->Bool:=λS=>decide (itemsOf S a=some all)
noncomputable def e7 (j:Int):Bool:=decide (-(2 ^ 62)<=j)&&decide (j<2 ^ 62)
noncomputable def iS {α:Type}(is:List Nat)(one:Bool)(t:C Bool)(b:α->C α)(ρ:Env)(a:α)(x:D)(S:ae):R α:=match x with
 | .tup xs=>(bF (λ_=>true) is one t b ρ xs a S)
 | .str z=>aB one ((bF (λ_=>true) is one t b ρ (signs z) a S))
 | .ref n=>match S[n]? with
  | some (.aG af)=>aB (af.all λkv=>aY kv.1) (((bF (λ_=>true) is one t b ρ (af.map (·.1)) a (S.set n (.dC af)))).bind λa1 S2=>match S2[n]? with | some (.dC cF)=>.ok a1 (S2.set n (.aG cF)) | _=>.bad)
  | some (.lst xs)=>(bF (e9 (.ref n) xs) is one t b ρ xs a S)
  | _=>.bad
 | _=>.bad
noncomputable def blank (is:List Nat)(ρ:Env):Bool:=is.all λi=>match ρ[i]? with | some none=>true | _=>false
noncomputable def inner (n:Nat)(ρ:Env):Env:=List.replicate n none++ρ
noncomputable def hV {α:Type}(n:Nat)(s:Src)(is:List Nat)(one:Bool)(t:C Bool)(b:α->C α)(a:α):C α:=λρ S=>aB (blank is (inner n ρ)) (match s with
 | .dyn c=>(c ρ S).bind λx S1=>iS is one t b (inner n ρ) a x S1
 | .range c=>(c ρ S).bind λx S1=>match x with
  | .int j=>aB (e7 j&&decide (j.toNat<=sizeLine)) ((bF (λ_=>true) is one t b (inner n ρ) (dZ 0 j.toNat) a S1))
  | _=>.bad
 | .down _=>.bad)
noncomputable def bL (e:C D)(ys:List D):C (List D):=λρ S=>aB (decide (ys.length<sizeLine)) ((e ρ S).bind λy S1=>.ok (ys++[y]) S1)
noncomputable def always:C Bool:=λ_ S=>.ok true S
noncomputable def sU (c:C (List D)):C D:=λρ S=>(c ρ S).bind λys S1=>match bools ys with | some bs=>.ok (.bl (bs.all id)) S1 | none=>.bad
noncomputable def rq (c:C (List D)):C D:=λρ S=>(c ρ S).bind λys S1=>.ok (.tup ys) S1
noncomputable def dj (a:C D):C Bool:=λρ S=>(a ρ S).bind λx S1=>truthOf x S1
noncomputable def aq (a:C D):C Bool:=λρ S=>(a ρ S).bind λx S1=>boolOf x S1
noncomputable def eK (a:C Bool):C Bool:=λρ S=>(a ρ S).bind λb S1=>.ok (!b) S1
noncomputable def eA (a b:C Bool):C Bool:=λρ S=>(a ρ S).bind λt S1=>if t=true then b ρ S1 else .ok false S1
noncomputable def lh (a b:C Bool):C Bool:=λρ S=>(a ρ S).bind λt S1=>if t=true then .ok true S1 else b ρ S1
inductive F where
 | nx (ρ:Env) (S:ae) | rt (d:D) (S:ae) | bk (ρ:Env) (S:ae) | ct (ρ:Env) (S:ae) | bad
noncomputable abbrev CS:=Env->ae->F
noncomputable def dI {α:Type}(r:R α)(f:α->ae->F):F:=match r with
 | .ok a S=>f a S
 | .bad=>.bad
@[simp] theorem Di {α:Type}(a:α)(S:ae)(f:α->ae->F):dI (.ok a S) f=f a S:=rfl
noncomputable def F.then (r:F)(k:CS):F:=match r with
 | .nx ρ S=>k ρ S
 | r=>r
@[simp] theorem F.Ih (ρ:Env)(S:ae)(k:CS):(F.nx ρ S).then k=k ρ S:=rfl
noncomputable def ah:List CS->CS
 | []=>λρ S=>.nx ρ S
 | c::cs=>λρ S=>(c ρ S).then (ah cs)
noncomputable def Gp:CS:=λρ S=>.nx ρ S
noncomputable def Dm:CS:=λρ S=>.bk ρ S
noncomputable def GP:CS:=λρ S=>.ct ρ S
noncomputable def bN:CS:=λ_ _=>.bad
noncomputable def aU (e:C D):CS:=λρ S=>dI (e ρ S) λ_ S1=>.nx ρ S1
noncomputable def retS (e:C D):CS:=λρ S=>dI (e ρ S) λd S1=>.rt d S1
noncomputable def bA (c:C Bool)(a b:CS):CS:=λρ S=>dI (c ρ S) λt S1=>if t=true then a ρ S1 else b ρ S1
noncomputable def a5 (i:Nat)(e:C D):CS:=λρ S=>dI (e ρ S) λd S1=>.nx (ρ.set i (some d)) S1
noncomputable def qb (i:Nat)(e:C D):CS:=λρ S=>match ρ[i]? with
 | some (some (.ref n))=>dI (e ρ S) λy S1=>dI (iL n [y] S1) λ_ S2=>.nx ρ S2
 | _=>.bad
noncomputable def kF (is:List Nat)(cs:List (C D)):CS:=λρ S=>dI (b8 cs ρ S) λds S1=>match ic is ds ρ with | some ρ'=>.nx ρ' S1 | none=>.bad
noncomputable def tupS (is:List Nat)(e:C D):CS:=λρ S=>dI (e ρ S) λd S1=>match d with | .tup ds=>(match ic is ds ρ with | some ρ'=>.nx ρ' S1 | none=>.bad) | _=>.bad
noncomputable def eT (pl:Nat->Nat->Bool)(o:C D)(f:Nat)(e:C D):CS:=λρ S=>dI (e ρ S) λv S1=>dI (o ρ S1) λx S2=>dI (iV pl x f v S2) λ_ S3=>.nx ρ S3
noncomputable def fJ (o i:C D)(e:C D):CS:=λρ S=>dI (e ρ S) λv S1=>dI (o ρ S1) λx S2=>dI (i ρ S2) λk S3=>dI (dF x k v S3) λ_ S4=>.nx ρ S4
noncomputable def ma (o i:C D):CS:=λρ S=>dI (o ρ S) λx S1=>dI (i ρ S1) λk S2=>dI (jV x k S2) λ_ S3=>.nx ρ S3
noncomputable def G0 (r:F)(k:Env->ae->F):F:=match r with
 | .nx ρ S=>k ρ S
 | .ct ρ S=>k ρ S
 | .bk ρ S=>.nx ρ S
 | r=>r
noncomputable def e6 (chk:ae->Bool)(is:List Nat)(one:Bool)(b:CS):List D->CS
 | [],ρ,S=>if chk S=true then .nx ρ S else .bad
 | x::xs,ρ,S=>if chk S=true then (match oS is one x ρ with
  | some ρ1=>G0 (b ρ1 S) (e6 chk is one b xs)
  | none=>.bad) else .bad
noncomputable def forL:List Nat->Bool->CS->List D->CS:=e6 λ_=>true
noncomputable def BN (a:D)(all:List D):List Nat->Bool->CS->List D->CS:=e6 (e9 a all)
noncomputable def Af (n:Nat)(r:F):F:=match r with
 | .nx ρ S=>match S[n]? with | some (.dC af)=>.nx ρ (S.set n (.aG af)) | _=>.bad
 | _=>.bad
noncomputable def s9 (is:List Nat)(one:Bool)(b:CS)(x:D):CS:=λρ S=>match x with
 | .ref n=>match S[n]? with
  | some (.lst xs)=>BN (.ref n) xs is one b xs ρ S
  | some (.aG af)=>if (af.all λkv=>aY kv.1)=true then Af n (forL is one b (af.map (·.1)) ρ (S.set n (.dC af))) else .bad
  | _=>.bad
 | _=>.bad
noncomputable def EV (s:Src)(is:List Nat)(one:Bool)(b:CS):CS:=λρ S=>match s with
 | .dyn a=>dI (a ρ S) λx S1=>s9 is one b x ρ S1
 | .range a=>dI (a ρ S) λx S1=>match x with
  | .int j=>if e7 j=true then forL is one b (dZ 0 j.toNat) ρ S1 else .bad
  | _=>.bad
 | .down a=>dI (a ρ S) λx S1=>match x with
  | .int j=>if 0<=j/\j<=1000 then forL is one b (gG j.toNat) ρ S1 else .bad
  | _=>.bad
noncomputable def kg (n:Nat):D->Bool
 | .tup xs=>tm n xs
 | .ref m=>decide (m<n)
 | _=>true
where tm (n:Nat):List D->Bool
 | []=>true
 | x::xs=>kg n x&&tm n xs
noncomputable def i4 (n:Nat):O->Bool
 | .lst xs | .cw xs=>xs.all (kg n)
 | .aG af | .dC af | .jr af=>af.all λkv=>kg n kv.1&&kg n kv.2
 | .obj _ fs=>fs.all λf=>kg n f.2
noncomputable def gj (n:Nat)(ρ:Env):Env:=ρ.map λo=>o.bind λd=>if kg n d=true then some d else none
noncomputable def iH (n:Nat)(a:D)(all:List D)(i:Nat)(b:CS):List D->CS
 | [],ρ,S=>if e9 a all S=true then .nx ρ S else .bad
 | x::xs,ρ,S=>if e9 a all S=true then (match b (ρ.set i (some x)) S with
  | .nx ρ1 S1=>if (S1.take n).all (i4 n)=true/\n<=S1.length then iH n a all i b xs (gj n ρ1) (S1.take n) else .bad
  | .rt d S1=>.rt d S1
  | _=>.bad) else .bad
noncomputable def vX (n:Nat)(S:ae):Option ae:=match (S[0]?:Option O) with
 | some (.cw xs)=>if S.length<=n then some (S++List.replicate (n-S.length) (.cw xs)) else none
 | _=>none
noncomputable def jB (n:Nat)(e:C D)(i:Nat)(b:CS):CS:=λρ S=>(dI (e ρ S) λx S1=>match x with
 | .ref m=>match S1[m]?,vX n S1 with
  | some (.lst xs),some S2=>if S2.all (i4 n)=true then iH n x xs i b xs (gj n ρ) S2 else .bad
  | _,_=>.bad
 | _=>.bad)
noncomputable def fh (s:Src)(is:List Nat)(one:Bool)(b:CS):CS:=EV s is one b
structure Tab where
 cons:List (Str×D)
 cQ:List Str
 eB:List Str
 fU:List Str
 Bj:List Str
 meths:List (Nat×Nat)
 kwo:List (Nat×List (Str×D)):=[]
 pay:List (Nat×Str):=[]
noncomputable def Tab.aS (T:Tab)(c f:Nat):Bool:=T.meths.any λp=>p.1==c&&p.2==f
noncomputable def Tab.dt (T:Tab)(c:Nat):List (Str×D):=(T.kwo.lookup c).getD []
noncomputable def Tab.plain (T:Tab)(c f:Nat):Bool:=!T.aS c f
structure Calls where
 f:Nat->List D->ae->R D
 m:Nat->Nat->List D->ae->R D
structure Gm where
 N:List Str
 sc:Scope
 lam:Bool
structure d0 where
 e:Gm->Expr->C D
 t:Gm->Expr->C Bool
 s:Gm->Stmt->CS
noncomputable def b9 (l:List Str)(x:Str):Option Nat:=l.findIdx? λy=>decide (y=x)
noncomputable def og (x:Str):Bool:=(x==("__debug__":Str))||(x==("__classdict__":Str))
noncomputable def zM (T:Tab)(Γ:Gm)(x:Str):C D:=if og x=true then aW else match Γ.sc.names.lookup x with
 | some .local | some .cell | some .free=>match b9 Γ.N x with | some i=>aa i | none=>aW
 | some .globalImplicit=>match T.cons.lookup x with | some d=>cE d | none=>aW
 | _=>aW
noncomputable def fe (Γ:Gm)(x:Str):Bool:=!og x&&(Γ.sc.names.lookup x==some .globalImplicit)
noncomputable def aI:Expr->Bool
 | .Starred _ _=>false
 | _=>true
noncomputable def i0:Expr->Bool
 | .Call (.Name _ _) [] [] _=>false
 | _=>true
noncomputable def dR:Expr->Bool
 | .Set _ _ _=>false
 | _=>true
noncomputable def eX:Expr->Bool
 | .Slice _ _ _ _=>false
 | _=>true
noncomputable def fM:Expr->Bool
 | .ListComp _ _ _ _ | .SetComp _ _ _ _ | .DictComp _ _ _ _ _=>true
 | _=>false
noncomputable def kdOf (x:Str):Option Kd:=if x=("int":Str) then some .int else if x=("bool":Str) then some .bool else if x=("str":Str) then some .str else if x=("tuple":Str) then some .tuple else if x=("list":Str) then some .list else none
noncomputable def vo (x:Str)(n:Nat):Option B:=if x=("max":Str)/\n=2 then some .max2 else if x=("min":Str)/\n=2 then some .min2 else
 if x=("tuple":Str)/\n=1 then some .tuple else if x=("list":Str)/\n=1 then some .list else none
noncomputable def AK (x:Str)(n:Nat):Option Mt:=if x=("append":Str)/\n=1 then some .append else if x=("pop":Str)/\n=1 then some .pop else if x=("get":Str)/\n=1 then some .get else if x=("get":Str)/\n=2 then some .qx else if x=("extend":Str)/\n=1 then some .extend else if x=("remove":Str)/\n=1 then some .remove else if x=("insert":Str)/\n=2 then some .insert else none
noncomputable def cj (xs N:List Str):List Str:=N.map λy=>if xs.contains y=true then y++("?":Str) else y
noncomputable def i6 (sc outer:Scope)(xs M:List Str):Bool:=
 (sc.kind == .function)&&sc.names.all (λp=>p.2 != NameKind.cell)&&xs.all (λx=>sc.names.lookup x==some NameKind.local)&&sc.names.all (λp=>p.2 != NameKind.local||sc.names.lookup p.1==some NameKind.local) &&
 sc.names.all (λp=>p.2 != NameKind.free||(outer.names.lookup p.1==some NameKind.cell||outer.names.lookup p.1==some NameKind.free))&&M.all (λy=>sc.names.lookup y != some NameKind.local)
noncomputable def jU:List Str->Bool
 | []=>true
 | x::xs=>!(xs.any λy=>decide (y=x))&&jU xs
noncomputable def eD (sc:Scope)(xs N:List Str):Bool:=jU (xs++cj xs N) && !(sc.names.any λp=>xs.any λx=>decide (p.1=x++("?":Str)))
noncomputable def slot (Γ:Gm)(x:Str):Option Nat:=if Γ.sc.names.lookup x==some .local||Γ.sc.names.lookup x==some .cell then b9 Γ.N x else none
noncomputable def slots (Γ:Gm):List Expr->Option (List Nat)
 | []=>some []
 | .Name x _::r=>match slot Γ x,slots Γ r with | some i,some is=>if is.contains i then none else some (i::is) | _,_=>none
 | _=>none
noncomputable def yw:Expr->List Str
 | .Name x _=>[x]
 | .Tuple ts _ _=>ts.filterMap λt=>match t with | .Name x _=>some x | _=>none
 | _=>[]
noncomputable def jD (Γ:Gm):Expr->Option (List Nat×Bool)
 | .Name x _=>(slot Γ x).map λi=>([i],true)
 | .Tuple ts _ _=>(slots Γ ts).map λis=>(is,false)
 | _=>none
noncomputable def qO:Expr->Bool
 | .UnaryOp .USub (.Constant (.int 1) _ _) _=>true
 | _=>false
noncomputable def srcOf (T:Tab)(k:d0)(Γ:Gm)(it:Expr):Option Src:=match it with
 | .Call (.Name r _) [a] [] _=>if r=("range":Str)/\fe Γ r=true/\aI a=true then some (.range (k.e Γ a)) else if dR it=true then some (.dyn (k.e Γ it)) else none
 | .Call (.Name r _) [a,b,c] [] _=>if r=("range":Str)/\fe Γ r=true/\aI a=true/\qO b=true/\qO c=true then some (.down (k.e Γ a)) else none
 | _=>if dR it=true then some (.dyn (k.e Γ it)) else none
noncomputable def Ep (Γ:Gm)(sc:Scope)(xs:List Str):Option Gm:=if i6 sc Γ.sc xs (cj xs Γ.N)=true/\eD sc xs Γ.N=true then some ⟨xs++cj xs Γ.N,sc,false⟩ else none
noncomputable def Ay (k:d0)(Γ:Gm):List Expr->Option (C Bool)
 | []=>some always
 | [c]=>some (k.t Γ c)
 | _=>none
noncomputable def DU {α:Type}(T:Tab)(k:d0)(Γ Γ':Gm)(n:Nat)(tg it:Expr)(ifs:List Expr)(b:α->C α):Option (α->C α):=match srcOf T k Γ it,jD Γ' tg,Ay k Γ' ifs with
 | some s,some (is,one),some t=>some (hV n s is one t b)
 | _,_,_=>none
noncomputable def iT (T:Tab)(k:d0)(Γ:Gm)(e:Expr):Option (C (List D)):=match e with
 | .ListComp elt [⟨tg,it,ifs,0⟩] sc _=>(Ep Γ sc (yw tg)).bind λΓ'=>(DU T k Γ Γ' (yw tg).length tg it ifs (bL (k.e Γ' elt))).map λf=>f []
 | _=>none
noncomputable def Ou (T:Tab)(Γ:Gm)(t:Str):Bool:=fe Γ t&&(b9 T.eB t).isNone&&(b9 T.fU t).isNone&&(T.cons.lookup t).isNone&&(b9 T.Bj t).isNone
noncomputable def setArg (T:Tab)(Γ:Gm):Expr->Option Expr
 | .Call (.Name s _) [b] [] _=>if s=("set":Str)/\Ou T Γ s=true/\aI b=true then some b else none
 | _=>none
noncomputable def Ej (T:Tab)(cl:Calls)(k:d0)(Γ:Gm)(a:Expr):C D:=match setArg T Γ a with
 | some b=>oM (k.e Γ b)
 | none=>dQ T.aS cl.m (b9 T.cQ "__len__") (k.e Γ a)
noncomputable def zY (T:Tab)(cl:Calls)(k:d0)(Γ:Gm)(x:Str)(args:List Expr)(kws:List Keyword):C D:=
 if fe Γ x=false\/args.all aI=false\/args.isEmpty=true\/(kws.all λq=>q.arg.isSome)=false\/x=("_law_told":Str) then aW else match b9 T.eB x,b9 T.fU x,b9 T.cQ "__init__" with
 | none,some c,some i=>if T.aS c i=true/\T.dt c≠[]/\(kws.all λq=>(T.dt c).any λp=>decide (some p.1=q.arg))=true/\jU (kws.filterMap (·.arg))=true then ie (cl.m c i) c (args.map (k.e Γ)) (T.dt c) (kws.filterMap (·.arg)) (kws.map λq=>k.e Γ q.value) else aW
 | _,_,_=>aW
noncomputable def Aa (T:Tab)(cl:Calls)(k:d0)(Γ:Gm)(x:Str)(args:List Expr):C D:=
 if fe Γ x=false\/args.all aI=false then aW else
 match b9 T.eB x with
 | some f=>ao (cl.f f) (args.map (k.e Γ))
 | none=>match b9 T.fU x with
  | some c=>match b9 T.cQ "__init__" with
   | some i=>if T.aS c i=true/\(T.dt c=[]\/args.isEmpty=false) then ie (cl.m c i) c (args.map (k.e Γ)) (T.dt c) [] [] else aW
   | none=>aW
  | none=>if (T.cons.lookup x).isSome=true\/(b9 T.Bj x).isSome=true then aW else
   if x=("isinstance":Str) then (match args with
    | [a,.Name t _]=>match kdOf t with
     | some kd=>if fe Γ t=true/\(b9 T.eB t).isNone=true/\(b9 T.fU t).isNone=true/\(T.cons.lookup t).isNone=true/\(b9 T.Bj t).isNone=true then nO kd (k.e Γ a) else aW
     | none=>aW
    | _=>aW)
   else match args with
    | [a]=>if x=("len":Str) then Ej T cl k Γ a else match iT T k Γ a with
     | some c=>if x=("all":Str) then sU c else if x=("tuple":Str) then rq c else (match vo x 1 with | some b=>ao (cx b) [k.e Γ a] | none=>aW)
     | none=>match vo x 1 with | some b=>ao (cx b) [k.e Γ a] | none=>aW
    | _=>match vo x args.length with | some b=>ao (cx b) (args.map (k.e Γ)) | none=>aW
noncomputable def Bx:PySem.Const->C D
 | .none=>cE .aj
 | .bool b=>cE (.bl b)
 | .int i=>cE (.int i)
 | .str x=>cE (.str x)
 | _=>aW
noncomputable def GW (k:d0)(Γ:Gm)(op:BoolOp)(p:Pos):List Expr->C D
 | []=>aW
 | [a]=>k.e Γ a
 | a::b::r=>match op with
  | .And=>j4 (k.e Γ a) (k.e Γ (.BoolOp .And (b::r) p))
  | .Or=>G9 (k.e Γ a) (k.e Γ (.BoolOp .Or (b::r) p))
noncomputable def FV (k:d0)(Γ:Gm)(a:Expr)(ops:List CmpOp)(bs:List Expr):C D:=match ops,bs with
 | [op],[b]=>if dR b=true then aC op (k.e Γ a) (k.e Γ b) else aW
 | [o1,o2],[b,c]=>if dR b=true/\dR c=true then iq o1 o2 (k.e Γ a) (k.e Γ b) (k.e Γ c) else aW
 | _,_=>aW
noncomputable def LK (k:d0)(Γ:Gm)(a b:Expr):C D:=match b with
 | .Slice lo hi st _=>match st with
  | none=>fN (k.e Γ a) (lo.map (k.e Γ)) (hi.map (k.e Γ))
  | some _=>aW
 | _=>bh (k.e Γ a) (k.e Γ b)
noncomputable def MQ (T:Tab)(cl:Calls)(k:d0)(Γ:Gm)(f:Expr)(args:List Expr)(kws:List Keyword)(cp:Pos):C D:=match f with
 | .Name x _=>match kws with
  | []=>Aa T cl k Γ x args
  | kw::kws=>zY T cl k Γ x args (kw::kws)
 | .Attribute a m ap=>if kws.isEmpty=true/\i0 a=true/\args.all aI=true/\(ap.endLine==cp.line)=true/\args.length<30/\m≠("__init__":Str) then aF T.aS cl.m (b9 T.cQ m) (AK m args.length) (k.e Γ a) (args.map (k.e Γ)) else aW
 | _=>aW
noncomputable def qW (T:Tab)(cl:Calls)(k:d0)(Γ:Gm)(e:Expr):C D:=match e with
 | .Constant c _ _=>Bx c
 | .Name x _=>zM T Γ x
 | .BinOp a op b _=>bz op (k.e Γ a) (k.e Γ b)
 | .UnaryOp op a _=>match op with
  | .Not=>E5 (k.e Γ a)
  | .USub=>Mo (k.e Γ a)
  | _=>aW
 | .BoolOp op es p=>GW k Γ op p es
 | .IfExp c a b _=>rR (k.t Γ c) (k.e Γ a) (k.e Γ b)
 | .Compare a ops bs _=>FV k Γ a ops bs
 | .Tuple es _ _=>if es.all aI=true then ba (es.map (k.e Γ)) else aW
 | .List es _=>if es.all aI=true then bT (es.map (k.e Γ)) else aW
 | .Dict ks vs _=>if ks.isEmpty=true/\vs.isEmpty=true then g8 else aW
 | .Attribute a f _=>match b9 T.cQ f with | some i=>if i0 a=true then aE (k.e Γ a) i else aW | none=>aW
 | .Subscript a b _=>LK k Γ a b
 | .ListComp el gs sc p=>match iT T k Γ (.ListComp el gs sc p) with | some c=>λρ S=>(c ρ S).bind λys S1=>fz (.lst ys) S1 | none=>aW
 | .Call f args kws cp=>MQ T cl k Γ f args kws cp
 | _=>aW
noncomputable def N7 (k:d0)(Γ:Gm)(op:BoolOp)(p:Pos):List Expr->C Bool
 | []=>aW
 | [a]=>k.t Γ a
 | a::b::r=>match op with
  | .And=>eA (k.t Γ a) (k.t Γ (.BoolOp .And (b::r) p))
  | .Or=>lh (k.t Γ a) (k.t Γ (.BoolOp .Or (b::r) p))
noncomputable def OM (k:d0)(Γ:Gm)(a:Expr)(ops:List CmpOp)(bs:List Expr)(p:Pos):C Bool:=match ops,bs with
 | [op],[b]=>aq (k.e Γ (.Compare a [op] [b] p))
 | [o1,o2],[b,c]=>aq (k.e Γ (.Compare a [o1,o2] [b,c] p))
 | _,_=>aW
noncomputable def stepT (T:Tab)(k:d0)(Γ:Gm)(e:Expr):C Bool:=match e with
 | .UnaryOp op a _=>match op with
  | .Not=>eK (k.t Γ a)
  | _=>aW
 | .BoolOp op es p=>N7 k Γ op p es
 | .IfExp _ _ _ _=>aW
 | .Compare a ops bs p=>OM k Γ a ops bs p
 | e=>dj (k.e Γ e)
noncomputable def Gq (Γ:Gm)(l:Nat):Expr->Bool
 | .Name id p=>Γ.sc.names.lookup id==some .local&&p.line==l
 | _=>false
noncomputable def Au (Γ:Gm)(ts es:List Expr):Option Bool:=
 if ts.all (Gq Γ ((ts.head?.map (·.pos.line)).getD 0))=false then some false
 else if es.all (foldedForSure 8)=true then some false else if es.all (constantsAlone 8)=true then none else some true
noncomputable def md (it:Expr):Bool:=match it with
 | .Call f _ _ _=>match f with | .Name x _=>x==("_law_rounds":Str) | _=>false
 | _=>false
noncomputable def je:Nat:=10
noncomputable def DX (k:d0)(Γ:Gm)(ts:List Expr)(e:Expr):CS:=match slots Γ ts with
 | none=>bN
 | some is=>match e with
  | .Tuple es _ _=>if es.all aI=true/\(es.length=2\/es.length=3)/\es.length=ts.length/\(Au Γ ts es).isSome=true then kF is (es.map (k.e Γ)) else bN
  | e=>if fM e=true then bN else tupS is (k.e Γ e)
noncomputable def MH (T:Tab)(k:d0)(Γ:Gm)(tg:Expr)(e:Expr):CS:=match tg with
 | .Name x _=>match slot Γ x with | some i=>a5 i (k.e Γ e) | none=>bN
 | .Tuple ts _ _=>DX k Γ ts e
 | .Attribute a f _=>match b9 T.cQ f with | some i=>eT T.plain (k.e Γ a) i (k.e Γ e) | none=>bN
 | .Subscript a i _=>if fM e=true\/eX i=false then bN else fJ (k.e Γ a) (k.e Γ i) (k.e Γ e)
 | _=>bN
noncomputable def D7 (T:Tab)(k:d0)(Γ:Gm)(tg it:Expr)(body:List Stmt):CS:=match tg with
 | .Name x _=>match slot Γ x,srcOf T k Γ it with
  | some i,some s=>if md it=true then jB je (k.e Γ it) i (ah (body.map (k.s Γ))) else fh s [i] true (ah (body.map (k.s Γ)))
  | _,_=>bN
 | .Tuple ts _ _=>match slots Γ ts,srcOf T k Γ it with | some is,some s=>fh s is false (ah (body.map (k.s Γ))) | _,_=>bN
 | _=>bN
noncomputable def GS (T:Tab)(cl:Calls)(k:d0)(Γ:Gm)(s:Stmt):CS:=match s with
 | .Pass _=>Gp
 | .Break _=>Dm
 | .Continue _=>GP
 | .Expr e _=>if fM e=true then bN else aU (k.e Γ e)
 | .Return o _=>match o with
  | some e=>retS (k.e Γ e)
  | none=>retS (cE .aj)
 | .If c a b _=>bA (k.t Γ c) (ah (a.map (k.s Γ))) (ah (b.map (k.s Γ)))
 | .Assign ts e _=>match ts with
  | [tg]=>MH T k Γ tg e
  | _=>bN
 | .Delete ts _=>match ts with
  | [.Subscript a i _]=>if eX i=true then ma (k.e Γ a) (k.e Γ i) else bN
  | _=>bN
 | .AugAssign tg op e _=>match tg,op with
  | .Name x _,.Add=>match slot Γ x with | some i=>qb i (k.e Γ e) | none=>bN
  | _,_=>bN
 | .For tg it body els _=>if els.isEmpty=true then D7 T k Γ tg it body else bN
 | _=>bN
noncomputable def qI (T:Tab)(cl:Calls):Nat->d0
 | 0=>⟨λ_ _=>aW,λ_ _=>aW,λ_ _=>bN⟩
 | n+1=>⟨λΓ e=>qW T cl (qI T cl n) Γ e,λΓ e=>stepT T (qI T cl n) Γ e,λΓ s=>GS T cl (qI T cl n) Γ s⟩
structure Fn where
 ps:List Str
 N:List Str
 sc:Scope
 body:List Stmt
 lam:Bool:=false
noncomputable def Oy (s:Stmt):Option (Arguments×List Stmt×Scope):=match s with
 | .FunctionDef _ a b _ _ _ sc _ _ _=>some (a,b,sc)
 | _=>none
noncomputable def namesOf (ps:List Str)(sc:Scope):List Str:=ps++((sc.names.filter λp=>(p.2 == .local||p.2 == .cell) && !(ps.any λy=>decide (y=p.1))).map (·.1))
noncomputable def fnOf (s:Stmt):Option Fn:=match Oy s with
 | some (a,b,sc)=>if a.posonlyargs.isEmpty/\a.vararg.isNone=true/\a.kwarg.isNone=true/\a.defaults.isEmpty then some ⟨(a.args++a.kwonlyargs).map (·.arg),namesOf ((a.args++a.kwonlyargs).map (·.arg)) sc,sc,b,false⟩ else none
 | none=>none
noncomputable def jd (N:List Str)(vs:List D):Env:=vs.map some++List.replicate (N.length-vs.length) none
noncomputable def a9 (r:F):R D:=match r with
 | .nx _ S=>.ok .aj S
 | .rt d S=>.ok d S
 | _=>.bad
noncomputable def Gn:Nat:=24
noncomputable def gF (T:Tab)(cl:Calls)(g:Fn)(vs:List D)(S:ae):R D:=
 if vs.length=g.ps.length then a9 (ah (g.body.map ((qI T cl Gn).s ⟨g.N,g.sc,g.lam⟩)) (jd g.N vs) S) else .bad
structure Prog where
 T:Tab
 fs:List Stmt
 ms:List (Nat×Nat×Stmt)
noncomputable def Prog.fn (P:Prog)(f:Nat):Option Fn:=(P.fs[f]?).bind fnOf
noncomputable def Prog.mt (P:Prog)(c m:Nat):Option Fn:=(P.ms.find? λx=>x.1==c&&x.2.1==m).bind λx=>fnOf x.2.2
noncomputable def calls (P:Prog):Nat->Calls
 | 0=>⟨λ_ _ _=>.bad,λ_ _ _ _=>.bad⟩
 | n+1=>⟨λf vs S=>match P.fn f with | some g=>gF P.T (calls P n) g vs S | none=>.bad,
  λc m vs S=>match P.mt c m with | some g=>gF P.T (calls P n) g vs S | none=>.bad⟩
end RF
namespace L2
open PySem PySem.Spec PyProof.Rows
open RF (D O ae Tab)
mutual
inductive au (M:List Addr) (H:Hp):D->V->Prop
 | aj:au M H .aj .aj
 | bl (b:Bool):au M H (.bl b) (.bl b)
 | int (i:Int):au M H (.int i) (.int i)
 | str (x:Str):au M H (.str x) (.str x)
 | tup {xs:List D} {vs:List V} {a:Addr}:H a=some (.tup vs)->ay M H xs vs->au M H (.tup xs) (.ref a)
 | ref {n:Nat} {a:Addr}:M[n]?=some a->au M H (.ref n) (.ref a)
inductive ay (M:List Addr) (H:Hp):List D->List V->Prop
 | nil:ay M H [] []
 | cons {x:D} {v:V} {xs:List D} {vs:List V}:au M H x v->ay M H xs vs->ay M H (x::xs) (v::vs)
end
structure pj (M:List Addr)(H:Hp)(M':List Addr)(H':Hp):Prop where
 pre:M <+: M'
 dS:∀b xs,H b=some (.tup xs)->H' b=some (.tup xs)
structure Up (M:List Addr)(H:Hp)(M':List Addr)(H':Hp):Prop extends pj M H M' H' where
 da:∀b o u,H b=some (.bQ o u)->H' b=some (.bQ o u)
theorem Up.refl (M:List Addr)(H:Hp):Up M H M H:=⟨⟨List.prefix_rfl,λ_ _ h=>h⟩,λ_ _ _ h=>h⟩
theorem Up.trans {M M1 M2:List Addr}{H H1 H2:Hp}(a:Up M H M1 H1)(b:Up M1 H1 M2 H2):Up M H M2 H2:=⟨⟨a.pre.trans b.pre,λc xs h=>b.dS c xs (a.dS c xs h)⟩,λc o u h=>b.da c o u (a.da c o u h)⟩
theorem dY {M M':List Addr}(h:M <+: M'){n:Nat}{a:Addr}(e:M[n]?=some a):M'[n]?=some a:=by obtain⟨t,rfl⟩:=h;rw[List.getElem?_append_left (List.getElem?_eq_some_iff.mp e).1];exact e
section
variable {M M':List Addr}{H H':Hp}
mutual
theorem au.d7 {d:D}{v:V}(r:au M H d v)(u:pj M H M' H'):au M' H' d v:=by
 cases r with
 | aj=>exact .aj
 | bl b=>exact .bl b
 | int i=>exact .int i
 | str x=>exact .str x
 | tup h rs=>exact .tup (u.dS _ _ h) (rs.d7 u)
 | ref h=>exact .ref (dY u.pre h)
theorem ay.d7 {ds:List D}{vs:List V}(r:ay M H ds vs)(u:pj M H M' H'):ay M' H' ds vs:=by
 cases r with
 | nil=>exact .nil
 | cons h hs=>exact .cons (h.d7 u) (hs.d7 u)
end
theorem au.up {d:D}{v:V}(r:au M H d v)(u:Up M H M' H'):au M' H' d v:=r.d7 u.topj
theorem ay.up {ds:List D}{vs:List V}(r:ay M H ds vs)(u:Up M H M' H'):ay M' H' ds vs:=r.d7 u.topj
theorem ay.length {ds:List D}{vs:List V}(r:ay M H ds vs):ds.length=vs.length:=by
 induction ds generalizing vs with
 | nil=>cases r;rfl
 | cons d ds ih=>cases r with | cons _ h=>simp[ih h]
theorem ay.get {ds:List D}{vs:List V}(r:ay M H ds vs){i:Nat}{d:D}(e:ds[i]?=some d):∃v,vs[i]?=some v/\au M H d v:=by
 induction ds generalizing vs i with
 | nil=>simp at e
 | cons x xs ih=>
  cases r with
  | cons h hs=>
   cases i with
   | zero=>simp at e;subst e;exact⟨_,rfl,h⟩
   | succ i=>exact ih hs (by simpa using e)
theorem ay.get' {ds:List D}{vs:List V}(r:ay M H ds vs){i:Nat}{v:V}(e:vs[i]?=some v):∃d,ds[i]?=some d/\au M H d v:=by
 induction ds generalizing vs i with
 | nil=>cases r;simp at e
 | cons x xs ih=>
  cases r with
  | cons h hs=>
   cases i with
   | zero=>simp at e;subst e;exact⟨_,rfl,h⟩
   | succ i=>exact ih hs (by simpa using e)
theorem ay.append {ds es:List D}{vs ws:List V}(r:ay M H ds vs)(q:ay M H es ws):ay M H (ds++es) (vs++ws):=by
 induction ds generalizing vs with
 | nil=>cases r;exact q
 | cons d ds ih=>cases r with | cons h hs=>exact .cons h (ih hs)
theorem ay.set {ds:List D}{vs:List V}{d:D}{v:V}(r:ay M H ds vs)(q:au M H d v)(i:Nat):ay M H (ds.set i d) (vs.set i v):=by
 induction ds generalizing vs i with
 | nil=>cases r;exact .nil
 | cons x xs ih=>
  cases r with
  | cons h hs=>
   cases i with
   | zero=>exact .cons q hs
   | succ i=>exact .cons h (ih hs i)
theorem ay.drop {ds:List D}{vs:List V}(r:ay M H ds vs)(i:Nat):ay M H (ds.drop i) (vs.drop i):=by
 induction i generalizing ds vs with
 | zero=>exact r
 | succ i ih=>
  cases r with
  | nil=>exact .nil
  | cons _ hs=>exact ih hs
theorem ay.take {ds:List D}{vs:List V}(r:ay M H ds vs)(i:Nat):ay M H (ds.take i) (vs.take i):=by
 induction i generalizing ds vs with
 | zero=>exact .nil
 | succ i ih=>
  cases r with
  | nil=>exact .nil
  | cons h hs=>exact .cons h (ih hs)
theorem ay.gM {ds:List D}{vs:List V}(r:ay M H ds vs):vs.isEmpty=ds.isEmpty:=by cases r<;>rfl
end
def dO:Key->D
 | .inl i=>.int i
 | .inr x=>.str x
def ofKeys (ks:List Key):D:=.tup (ks.map dO)
theorem Ck (M:List Addr)(H:Hp)(k:Key):au M H (dO k) (kV k):=by cases k with | inl i=>exact .int i | inr x=>exact .str x
theorem jc {a b:Key}(e:dO a=dO b):a=b:=by cases a<;>cases b<;>cases e<;>rfl
theorem rV:∀{a b:List Key},a.map dO=b.map dO->a=b
 | [],[],_=>rfl
 | [],_::_,e=>by simp at e
 | _::_,[],e=>by simp at e
 | x::xs,y::ys,e=>by simp only[List.map_cons,List.cons.injEq] at e;rw[jc e.1,rV e.2]
theorem dJ {a b:List Key}(e:ofKeys a=ofKeys b):a=b:=rV ((D.tup.injEq _ _).mp e)
theorem jz {d:D}(h:RF.dr d=true):∃k,d=dO k:=by
 cases d with
 | int i=>exact⟨.inl i,rfl⟩
 | str x=>exact⟨.inr x,rfl⟩
 | _=>simp[RF.dr] at h
theorem xQ {ds:List D}(h:ds.all RF.dr=true):∃ks:List Key,ds=ks.map dO:=by
 induction ds with
 | nil=>exact⟨[],rfl⟩
 | cons d ds ih=>simp only[List.all_cons,Bool.and_eq_true] at h;obtain⟨k,rfl⟩:=jz h.1;obtain⟨ks,rfl⟩:=ih h.2;exact⟨k::ks,rfl⟩
theorem gR {d:D}(h:RF.aY d=true):∃ks,d=ofKeys ks:=by
 cases d with
 | tup xs=>obtain⟨ks,rfl⟩:=xQ (show xs.all RF.dr=true from h);exact⟨ks,rfl⟩
 | _=>simp[RF.aY] at h
theorem mF (k:Key):RF.dr (dO k)=true:=by cases k<;>rfl
theorem uM (ks:List Key):RF.aY (ofKeys ks)=true:=by show (ks.map dO).all RF.dr=true;rw[List.all_map];exact List.all_eq_true.mpr λk _=>mF k
theorem rg {M:List Addr}{H:Hp}{k:Key}{v:V}(r:au M H (dO k) v):v=kV k:=by cases k<;>cases r<;>rfl
theorem lx {M:List Addr}{H:Hp}{ks:List Key}{vs:List V}(r:ay M H (ks.map dO) vs):vs=ks.map kV:=by
 induction ks generalizing vs with
 | nil=>cases r;rfl
 | cons k ks ih=>cases r with | cons h hs=>rw[rg h,ih hs];rfl
def cm {κ:Type}(f:κ->D)(M:List Addr)(H:Hp)(p:D×D)(q:κ×V):Prop:=p.1=f q.1/\au M H p.2 q.2
def lT (K:Fg)(H:Hp)(a:Addr)(vs:List V):Prop:=(∃o,H a=some (.bQ o (.lst vs))) \/
 ∃(o:Obj) (ai:Array Value) (n:Nat),K.lookup a=some o/\o.cls = .type "list"/\o.dict=none/\o.data = .seq ai n/\ai.size<=sizeLine/\Vals vs ai.toList
theorem lT.sq {K:Fg}{H:Hp}{a:Addr}{vs:List V}(h:lT K H a vs):cB K H a vs:=by
 rcases h with⟨o,h⟩ | h
 .exact .inl (.inr ⟨o,h⟩)
 .exact .inr h
structure bj where
 T:Tab
 c:Nat->Addr
 x:Nat->Addr
 tb:List (Addr×Str)
 ph:bc->Int:=λ_=>0
def ofPair (k:bc):D:=.tup [ofKeys k.1,.int k.2]
def eQ (K:Fg)(W:bj)(M:List Addr)(H:Hp)(a:Addr):O->Prop
 | .lst xs=>∃vs,H a=some (.lst vs)/\ay M H xs vs
 | .cw xs=>∃vs,lT K H a vs/\ay M H xs vs
 | .aG af=>(∃ks:List (Key×V),H a=some (.dK ks)/\Paired (cm dO M H) af ks)\/∃ts:List (List Key×V),H a=some (.dT ts)/\Paired (cm ofKeys M H) af ts
 | .dC af=>∃(o:Obj) (ts:List (List Key×V)),H a=some (.bQ o (.dT ts))/\Paired (cm ofKeys M H) af ts
 | .jr af=>∃(xs:List (bc×Addr×Value)) (ps:List (bc×V)),H a=some (PD W.ph a xs)/\KP H ps xs/\Paired (cm ofPair M H) af ps
 | .obj c fs=>∃dx gs,H a=some (.ins (W.c c) dx gs)/\c<W.T.fU.length/\Paired (λ(p:Nat×D) (q:Str×V)=>(W.T.cQ[p.1]?=some q.1/\W.T.plain c p.1=true)/\au M H p.2 q.2) fs gs
def fF:Option O->Bool
 | some (.cw _)=>true
 | _=>false
structure Cn (K:Fg)(W:bj)(M:List Addr)(S:ae)(H:Hp):Prop where
 len:M.length=S.length
 sk:W.T.cQ.Nodup
 sep:∀(i j:Nat) (a:Addr),M[i]?=some a->M[j]?=some a->fF S[i]?=false->fF S[j]?=false->i=j
 at_:∀(i:Nat) (o:O) (a:Addr),S[i]?=some o->M[i]?=some a->eQ K W M H a o
 gu:∀p∈W.tb,qR H p.1 p.2
theorem Ft {K:Fg}{W:bj}{M:List Addr}{H H':Hp}{a:Addr}{o:O}(h:eQ K W M H a o)(hr:fF (some o)=false)(t:∀p∈W.tb,qR H p.1 p.2)(e:Ha a H H'):∀p∈W.tb,qR H' p.1 p.2:=λp hp=>by
 cases o with
 | lst xs=>obtain⟨vs,h1,_⟩:=h;exact(t p hp).grown e h1 nofun nofun
 | cw xs=>simp[fF] at hr
 | aG af=>
  rcases h with⟨_,h1,_⟩|⟨_,h1,_⟩
  .exact(t p hp).grown e h1 nofun nofun
  .exact(t p hp).grown e h1 nofun nofun
 | dC af=>obtain⟨_,_,h1,_⟩:=h;exact(t p hp).grown e h1 nofun nofun
 | jr af=>obtain⟨_,_,h1,_⟩:=h;exact(t p hp).grown e h1 nofun (λc=>ID _ _ _ _ c)
 | obj c fs=>obtain⟨_,_,h1,_⟩:=h;exact(t p hp).grown e h1 nofun nofun
section
variable {K:Fg}{W:bj}{M M':List Addr}{S:ae}{H H':Hp}
theorem cm.d7 {κ:Type}{f:κ->D}{p:D×D}{q:κ×V}(h:cm f M H p q)(u:pj M H M' H'):cm f M' H' p q:=⟨h.1,h.2.d7 u⟩
theorem Paired.d7 {κ:Type}{f:κ->D}{ps:List (D×D)}{qs:List (κ×V)}(h:Paired (cm f M H) ps qs)(u:pj M H M' H'):Paired (cm f M' H') ps qs:=Paired.nS h λ_ _ z=>z.d7 u
theorem Paired.up {κ:Type}{f:κ->D}{ps:List (D×D)}{qs:List (κ×V)}(h:Paired (cm f M H) ps qs)(u:Up M H M' H'):Paired (cm f M' H') ps qs:=Paired.d7 h u.topj
theorem eQ.d7 {a:Addr}{o:O}(h:eQ K W M H a o)(u:pj M H M' H')(e:∀u,H a=some u->H' a=some u):eQ K W M' H' a o:=by
 cases o with
 | lst xs=>obtain⟨vs,h1,h2⟩:=h;exact⟨vs,e _ h1,h2.d7 u⟩
 | cw xs=>
  obtain⟨vs,h1,h2⟩:=h;refine⟨vs,?_,h2.d7 u⟩;rcases h1 with⟨o,h1⟩ | h1
  .exact .inl ⟨o,e _ h1⟩
  .exact .inr h1
 | aG af=>
  rcases h with⟨ks,h1,h2⟩|⟨ts,h1,h2⟩
  .exact .inl ⟨ks,e _ h1,Paired.d7 h2 u⟩
  .exact .inr ⟨ts,e _ h1,Paired.d7 h2 u⟩
 | dC af=>obtain⟨ob,ts,h1,h2⟩:=h;exact⟨ob,ts,e _ h1,Paired.d7 h2 u⟩
 | jr af=>obtain⟨xs,ps,h1,h2,h3⟩:=h;exact⟨xs,ps,e _ h1,h2.keeps u.dS,Paired.d7 h3 u⟩
 | obj c fs=>obtain⟨dx,gs,h1,hc,h2⟩:=h;exact⟨dx,gs,e _ h1,hc,Paired.nS h2 λ_ _ z=>⟨z.1,z.2.d7 u⟩⟩
theorem eQ.up {a:Addr}{o:O}(h:eQ K W M H a o)(u:Up M H M' H')(e:∀u,H a=some u->H' a=some u):eQ K W M' H' a o:=h.d7 u.topj e
theorem Cn.obj (c:Cn K W M S H){i:Nat}{a:Addr}(h:M[i]?=some a):∃o,S[i]?=some o/\eQ K W M H a o:=by
 have hi:i<S.length:=by rw[<-c.len];exact(List.getElem?_eq_some_iff.mp h).1
 exact⟨S[i],by simp[hi],c.at_ i _ a (by simp[hi]) h⟩
theorem bO {p:Addr}{o:HO}(hp:H p=none):Up M H M (upd H p o):=⟨⟨List.prefix_rfl,λb xs h=>by rw[ax (bC h hp)];exact h⟩,λb ob u h=>by rw[ax (bC h hp)];exact h⟩
theorem Cn.fresh (c:Cn K W M S H){p:Addr}{o:HO}(hp:H p=none):Cn K W M S (upd H p o):=
 ⟨c.len,c.sk,c.sep,λi ob a h1 h2=>(c.at_ i ob a h1 h2).up (bO hp) λu h=>by rw[ax (bC h hp)];exact h,λq hq=>(c.gu q hq).same λb o h=>by rw[ax (bC h hp)];exact h⟩
theorem iY {p:Addr}{o:HO}(hp:H p=none):Up M H (M++[p]) (upd H p o):=⟨⟨List.prefix_append _ _,(bO (M:=M) hp).dS⟩,(bO (M:=M) hp).da⟩
theorem Cn.new (c:Cn K W M S H){p:Addr}{ho:HO}{o:O}(hp:H p=none)(hr:fF (some o)=false)(h:eQ K W (M++[p]) (upd H p ho) p o):Cn K W (M++[p]) (S++[o]) (upd H p ho):=by
 have old:∀i a,M[i]?=some a->fF S[i]?=false->a≠p:=λi a e nr z=>by
  obtain⟨ob,h1,h2⟩:=c.obj e;subst z;rw[h1] at nr;cases ob with
  | lst xs=>obtain⟨_,h,_⟩:=h2;rw[hp] at h;cases h
  | cw xs=>simp[fF] at nr
  | aG af=>rcases h2 with⟨_,h,_⟩|⟨_,h,_⟩<;>(rw[hp] at h;cases h)
  | dC af=>obtain⟨_,_,h,_⟩:=h2;rw[hp] at h;cases h
  | jr af=>obtain⟨_,_,h,_⟩:=h2;rw[hp] at h;cases h
  | obj cc fs=>obtain⟨_,_,h,_⟩:=h2;rw[hp] at h;cases h
 refine⟨by simp[c.len],c.sk,λi j a h1 h2 r1 r2=>?_,λi ob a h1 h2=>?_,λq hq=>(c.gu q hq).same λb o h=>by rw[ax (bC h hp)];exact h⟩
 .rcases Nat.lt_or_ge i M.length with hi | hi
  .rw[List.getElem?_append_left hi] at h1;rw[List.getElem?_append_left (by rw[<-c.len];exact hi)] at r1;rcases Nat.lt_or_ge j M.length with hj | hj
   .rw[List.getElem?_append_left hj] at h2;rw[List.getElem?_append_left (by rw[<-c.len];exact hj)] at r2;exact c.sep i j a h1 h2 r1 r2
   .rw[List.getElem?_append_right hj] at h2;have:a=p:=by
     cases e:j-M.length with
     | zero=>rw[e] at h2;simpa using h2.symm
     | succ k=>rw[e] at h2;simp at h2
    exact absurd this (old i a h1 r1)
  .rw[List.getElem?_append_right hi] at h1;have ha:a=p/\i=M.length:=by
    cases e:i-M.length with
    | zero=>rw[e] at h1;exact⟨by simpa using h1.symm,by omega⟩
    | succ k=>rw[e] at h1;simp at h1
   rcases Nat.lt_or_ge j M.length with hj | hj
   .rw[List.getElem?_append_left hj] at h2;rw[List.getElem?_append_left (by rw[<-c.len];exact hj)] at r2;exact absurd ha.1 (old j a h2 r2)
   .rw[List.getElem?_append_right hj] at h2;have:j=M.length:=by
     cases e:j-M.length with
     | zero=>omega
     | succ k=>rw[e] at h2;simp at h2
    rw[ha.2,this]
 .rcases Nat.lt_or_ge i M.length with hi | hi
  .rw[List.getElem?_append_left hi] at h2;rw[List.getElem?_append_left (by rw[<-c.len];exact hi)] at h1;exact(c.at_ i ob a h1 h2).up (iY hp) λu q=>by rw[ax (bC q hp)];exact q
  .rw[List.getElem?_append_right hi] at h2;rw[List.getElem?_append_right (by rw[<-c.len];exact hi)] at h1;cases e:i-M.length with
   | zero=>
    rw[e] at h2;rw[<-c.len,e] at h1;have h1:o=ob:=by simpa using h1
    have h2:p=a:=by simpa using h2
    subst h1 h2;exact h
   | succ k=>rw[e] at h2;simp at h2
def vf (o:Option HO):Prop:=∀xs,o≠some (.tup xs)
def Gf:HO->Bool
 | .tup _=>true
 | .bQ _ _=>true
 | _=>false
def c7 (o:Option HO):Prop:=∀u,o=some u->Gf u=false
theorem dN {a:Addr}{o:HO}(e:H a=some o)(h:Gf o=false):c7 (H a):=λu z=>by rw[e] at z;cases z;exact h
theorem c7.tup {o:Option HO}(h:c7 o):vf o:=λxs z=>by cases h _ z
theorem jG {a:Addr}{ho:HO}(hn:vf (H a)):pj M H M (upd H a ho):=⟨List.prefix_rfl,λb xs h=>by rw[ax λz=>by subst z;exact hn xs h];exact h⟩
theorem aO {a:Addr}{ho:HO}(hn:c7 (H a)):Up M H M (upd H a ho):=⟨jG hn.tup,λb o u h=>by rw[ax λz=>by subst z;cases hn _ h];exact h⟩
theorem Cn.LV (c:Cn K W M S H){i:Nat}{a:Addr}{o o':O}{ho':HO}(hS:S[i]?=some o)(hM:M[i]?=some a)(hr:fF (some o)=false)(lF:fF (some o')=false)(hn:vf (H a))(hf:∀ob vs,H a≠some (.bQ ob (.lst vs)))
 (h:eQ K W M (upd H a ho') a o'):Cn K W M (S.set i o') (upd H a ho'):=by
 have hi:i<S.length:=(List.getElem?_eq_some_iff.mp hS).1;refine⟨by simp[c.len],c.sk,λj k b h1 h2 r1 r2=>c.sep j k b h1 h2 ?_ ?_,λj ob b h1 h2=>?_,Ft (c.at_ i o a hS hM) hr c.gu λb u z h=>by rw[ax z];exact h⟩
 .by_cases e:j=i
  .subst e;rw[hS];exact hr
  .rwa [List.getElem?_set_ne (Ne.symm e)] at r1
 .by_cases e:k=i
  .subst e;rw[hS];exact hr
  .rwa [List.getElem?_set_ne (Ne.symm e)] at r2
 .by_cases e:j=i
  .subst e;rw[List.getElem?_set_self hi] at h1;rw[hM] at h2;cases h1;cases h2;exact h
  .rw[List.getElem?_set_ne (Ne.symm e)] at h1;have q:=c.at_ j ob b h1 h2
   by_cases z:b=a
   .subst z;cases ob with
    | cw xs=>
     obtain⟨vs,g1,g2⟩:=q;rcases g1 with⟨o1,g1⟩ | g1
     .exact absurd g1 (hf o1 vs)
     .exact⟨vs,.inr g1,g2.d7 (jG hn)⟩
    | _=>exact absurd (c.sep j i b h2 hM (by rw[h1];rfl) (by rw[hS];exact hr)) e
   .exact q.d7 (jG hn) λu g=>by rw[ax z];exact g
theorem Cn.put (c:Cn K W M S H){i:Nat}{a:Addr}{o o':O}{ho':HO}(hS:S[i]?=some o)(hM:M[i]?=some a)(hr:fF (some o)=false)(lF:fF (some o')=false)(hn:c7 (H a))
 (h:eQ K W M (upd H a ho') a o'):Cn K W M (S.set i o') (upd H a ho'):=c.LV hS hM hr lF hn.tup (λob vs z=>by cases hn _ z) h
def kJ (M:List Addr)(H:Hp)(ρ:RF.Env)(σ:St):Prop:=∀(i:Nat) (d:D),ρ[i]?=some (some d)->∃v,σ[i]?=some (some v)/\au M H d v
theorem kJ.up {ρ:RF.Env}{σ:St}(h:kJ M H ρ σ)(u:Up M H M' H'):kJ M' H' ρ σ:=λi d e=>let ⟨v,a,b⟩:=h i d e;⟨v,a,b.up u⟩
theorem kJ.set {ρ:RF.Env}{σ:St}{i:Nat}{d:D}{v:V}(h:kJ M H ρ σ)(r:au M H d v)(hl:ρ.length<=σ.length):kJ M H (ρ.set i (some d)) (σ.set i (some v)):=λj x e=>by
 by_cases z:i=j
 .subst z;have hi:i<ρ.length:=by have:=(List.getElem?_eq_some_iff.mp e).1;simpa using this
  rw[List.getElem?_set_self hi] at e;cases e;exact⟨v,by rw[List.getElem?_set_self (by omega)],r⟩
 .rw[List.getElem?_set_ne z] at e;obtain⟨u,a,b⟩:=h j x e;exact⟨u,by rw[List.getElem?_set_ne z];exact a,b⟩
end
end L2
namespace L2
open PySem PySem.Spec PyProof.Rows
open RF (D O ae Tab)
structure Sm (K:Fg)(W:bj)(M:List Addr)(S:ae)(H:Hp)(ρ:RF.Env)(σ:St):Prop where
 con:Cn K W M S H
 env:kJ M H ρ σ
 len:ρ.length=σ.length
section
variable {K:Fg}{W:bj}{M M1 M2:List Addr}{S S1 S2:ae}{H H1 H2:Hp}{ρ:RF.Env}{σ:St}{E:XK}
theorem Sm.to (s:Sm K W M S H ρ σ)(c:Cn K W M1 S1 H1)(u:Up M H M1 H1):Sm K W M1 S1 H1 ρ σ:=⟨c,s.env.up u,s.len⟩
def av {α β:Type}(K:Fg)(W:bj)(rel:List Addr->Hp->α->β->Prop)(E:XK)(M:List Addr)(H:Hp)(r:RF.R α)(Q:β->Hp->Prop):Prop:=match r with
 | .ok a S'=>∀M' H' b,Cn K W M' S' H'->Up M H M' H'->rel M' H' a b->Q b H'
 | .bad=>False
theorem av.up {α β:Type}{rel:List Addr->Hp->α->β->Prop}{r:RF.R α}{Q:β->Hp->Prop}(h:av K W rel E M H r Q)(u:Up M H M1 H1):av K W rel E M1 H1 r Q:=by
 cases r with
 | ok a S'=>exact λM' H' b c u'=>h M' H' b c (u.trans u')
 | bad=>exact h
theorem av.now {α β:Type}{rel:List Addr->Hp->α->β->Prop}{a:α}{b:β}{Q:β->Hp->Prop}(h:av K W rel E M H (.ok a S) Q)(c:Cn K W M S H)(r:rel M H a b):Q b H:=h M H b c (Up.refl _ _) r
theorem av.at_ {α β:Type}{rel:List Addr->Hp->α->β->Prop}{a:α}{b:β}{Q:β->Hp->Prop}(h:av K W rel E M H (.ok a S1) Q)(c:Cn K W M1 S1 H1)(u:Up M H M1 H1)(r:rel M1 H1 a b):Q b H1:=h M1 H1 b c u r
def tG {α β:Type}(K:Fg)(W:bj)(rel:List Addr->Hp->α->β->Prop)(E:XK)(c:RF.C α):St->Hp->(β->Hp->Prop)->Prop:=λσ H Q=>∃M ρ S,Sm K W M S H ρ σ/\av K W rel E M H (c ρ S) Q
theorem vq {α β γ δ:Type}{rel:List Addr->Hp->α->β->Prop}{xJ:List Addr->Hp->γ->δ->Prop}{r:RF.R α}{g:α->ae->RF.R γ}{Q:δ->Hp->Prop}{Q1:β->Hp->Prop}
 (h:av K W xJ E M H (r.bind g) Q) (k:∀M1 H1 a b S1,Cn K W M1 S1 H1->Up M H M1 H1->rel M1 H1 a b->av K W xJ E M1 H1 (g a S1) Q->Q1 b H1):av K W rel E M H r Q1:=by
 cases r with
 | ok a S1=>exact λM1 H1 b c1 u1 r1=>k M1 H1 a b S1 c1 u1 r1 (av.up h u1)
 | bad=>exact h
theorem bD {α β γ δ:Type}{rel:List Addr->Hp->α->β->Prop}{xJ:List Addr->Hp->γ->δ->Prop}{c:RF.C α}{g:α->ae->RF.R γ}{Q:δ->Hp->Prop}{Q1:β->Hp->Prop}(s:Sm K W M S H ρ σ)
 (h:av K W xJ E M H ((c ρ S).bind g) Q) (k:∀M1 H1 a b S1,Sm K W M1 S1 H1 ρ σ->Up M H M1 H1->rel M1 H1 a b->av K W xJ E M1 H1 (g a S1) Q->Q1 b H1):tG K W rel E c σ H Q1:=
 ⟨M,ρ,S,s,vq h λM1 H1 a b S1 c1 u1 r1 g1=>k M1 H1 a b S1 (s.to c1 u1) u1 r1 g1⟩
theorem av.guard {α β:Type}{rel:List Addr->Hp->α->β->Prop}{b:Bool}{r:RF.R α}{Q:β->Hp->Prop}(h:av K W rel E M H (RF.aB b r) Q):b=true/\av K W rel E M H r Q:=by
 unfold RF.aB at h;cases b with
 | true=>exact⟨rfl,h⟩
 | false=>exact h.elim
end
abbrev tE (K:Fg)(W:bj)(E:XK)(c:RF.C D):TE:=tG K W au E c
abbrev tT (K:Fg)(W:bj)(E:XK)(c:RF.C Bool):TT:=tG K W (λ_ _ a b=>a=b) E c
abbrev tA (K:Fg)(W:bj)(E:XK)(c:RF.C (List D)):TA:=tG K W ay E c
theorem PE.imp {X:Cx}{e:Expr}{t t':TE}(h:PE X e t)(i:∀σ H Q,t' σ H Q->t σ H Q):PE X e t':=λpins s σ H Q I q=>h pins s σ H Q I (i σ H Q q)
theorem PT.imp {X:Cx}{e:Expr}{t t':TT}(h:PT X e t)(i:∀σ H Q,t' σ H Q->t σ H Q):PT X e t':=λpins s σ H Q I q=>h pins s σ H Q I (i σ H Q q)
theorem PW.imp {X:Cx}{e:Expr}{t t':TT}(h:PW X e t)(i:∀σ H Q,t' σ H Q->t σ H Q):PW X e t':=λwh pins s σ H Q I q=>h wh pins s σ H Q I (i σ H Q q)
theorem PA.imp {X:Cx}{es:List Expr}{t t':TA}(h:PA X es t)(i:∀σ H Q,t' σ H Q->t σ H Q):PA X es t':=λpos pins s σ H Q I q=>h pos pins s σ H Q I (i σ H Q q)
theorem PS.imp {X:Cx}{st:Stmt}{t t':TS}(h:PS X st t)(i:∀D σ H,t' D σ H->t D σ H):PS X st t':=λpins s σ H D I q=>h pins s σ H D I (i D σ H q)
theorem iy.imp {X:Cx}{st:List Stmt}{t t':TS}(h:iy X st t)(i:∀D σ H,t' D σ H->t D σ H):iy X st t':=λpins s σ H D I q=>h pins s σ H D I (i D σ H q)
theorem rh {K:Fg}{W:bj}{α β:Type}{rel:List Addr->Hp->α->β->Prop}{E:XK}{σ:St}{H:Hp}{Q:β->Hp->Prop}(h:tG K W rel E RF.aW σ H Q):False:=by obtain⟨M,ρ,S,s,g⟩:=h;exact g
theorem bg {X:Cx}{K:Fg}{W:bj}{e:Expr}{E:XK}:PE X e (tE K W E RF.aW):=λ_ _ _ _ _ _ h=>(rh h).elim
theorem gv {X:Cx}{K:Fg}{W:bj}{e:Expr}{E:XK}:PT X e (tT K W E RF.aW):=λ_ _ _ _ _ _ h=>(rh h).elim
section
variable {X:Cx}{W:bj}{E:XK}{a b c:Expr}{ca cb cc:RF.C D}{pos:Pos}
def eN (X:Cx)(W:bj)(E:XK)(f:D->D->ae->RF.R D)(r:R2):Prop:=∀(M:List Addr) (S:ae) (H:Hp) (x y:D) (u v:V) (Q:VK),Cn X.K W M S H->au M H x u->au M H y v->av X.K W au E M H (f x y S) Q->r u v H Q
theorem Gh {f:D->D->ae->RF.R D}{r:R2}(hr:eN X W E f r){σ:St}{H:Hp}{Q:VK}(h:tE X.K W E (RF.AX f ca cb) σ H Q):BH r (tE X.K W E ca) (tE X.K W E cb) σ H Q:=by obtain⟨M,ρ,S,s,g⟩:=h;exact bD s g λM1 H1 x u S1 s1 u1 r1 g1=>bD s1 g1 λM2 H2 y v S2 s2 u2 r2 g2=>hr M2 S2 H2 x y u v Q s2.con (r1.up u2) r2 g2
theorem Ly {op:Operator}{r:R2}(ho:bP X (binaryOp op) r)(hr:eN X W E (RF.gw op) r)(ha:PE X a (tE X.K W E ca))(hb:PE X b (tE X.K W E cb)):PE X (.BinOp a op b pos) (tE X.K W E (RF.bz op ca cb)):=
 (Nb ho ha hb).imp λ_ _ _ h=>Gh hr h
theorem LC {op:CmpOp}{r:R2}(ho:bP X (compareOp op) r)(hr:eN X W E (RF.a7 op) r)(ha:PE X a (tE X.K W E ca))(hb:PE X b (tE X.K W E cb))(hm:behindInMarks op b=false):PE X (.Compare a [op] [b] pos) (tE X.K W E (RF.aC op ca cb)):=
 (IL ho ha hb hm).imp λ_ _ _ h=>Gh hr h
theorem oh {α β:Type}{rel:List Addr->Hp->α->β->Prop}{K:Fg}{M:List Addr}{H:Hp}{d:D}{S:ae}{g:Bool->ae->RF.R α}{Q:β->Hp->Prop}(h:av K W rel E M H ((RF.boolOf d S).bind g) Q):∃b,d = .bl b/\av K W rel E M H (g b S) Q:=by
 cases d with
 | bl b=>exact⟨b,rfl,h⟩
 | _=>exact h.elim
theorem AB {op:CmpOp}{r:R2}(ho:bP X (compareOp op) r)(hr:eN X W E (RF.a7 op) r)(ha:PE X a (tE X.K W E ca))(hb:PE X b (tE X.K W E cb))(hm:behindInMarks op b=false):PT X (.Compare a [op] [b] pos) (tT X.K W E (RF.aq (RF.aC op ca cb))):=by
 refine(Iw ho ha hb hm).imp λσ H Q h=>?_;obtain⟨M,ρ,S,s,g⟩:=h;refine Gh hr (Q:=λx H'=>∃k,x = .bl k/\Q k H') ⟨M,ρ,S,s,?_⟩;refine vq g λM1 H1 d v S1 c1 u1 r1 g1=>?_;cases d with
 | bl k=>cases r1;exact⟨k,rfl,av.now g1 c1 rfl⟩
 | _=>exact g1.elim
theorem wt {o1 o2:CmpOp}{r1 r2:R2}(h1:eN X W E (RF.a7 o1) r1)(h2:eN X W E (RF.a7 o2) r2){σ:St}{H:Hp}{Q:VK}(h:tE X.K W E (RF.iq o1 o2 ca cb cc) σ H Q):we r1 r2 (tE X.K W E ca) (tE X.K W E cb) (tE X.K W E cc) σ H Q:=by
 obtain⟨M,ρ,S,s,g⟩:=h;refine bD s g λM1 H1 x u S1 s1 u1 rx g1=>bD s1 g1 λM2 H2 y v S2 s2 u2 ry g2=>?_;refine h1 M2 S2 H2 x y u v _ s2.con (rx.up u2) ry (vq g2 λM3 H3 d w S3 c3 u3 rd g3=>?_);obtain⟨k,rfl,g3⟩:=oh g3;cases rd;refine⟨k,rfl,?_⟩;have s3:=s2.to c3 u3;cases k with
 | false=>exact qg (av.now g3 c3 (.bl false))
 | true=>exact pU (bD s3 g3 λM4 H4 z w' S4 s4 u4 rz g4=>h2 M4 S4 H4 y z v w' Q s4.con ((ry.up u3).up u4) rz g4)
theorem nQ {o1 o2:CmpOp}{b c:Expr}(hc:RF.dR c=true):lastMarks [o1,o2] [b,c]=false:=by cases c<;>first | rfl | (simp[RF.dR] at hc)
theorem yy {op:CmpOp}{b:Expr}(h:RF.dR b=true):behindInMarks op b=false:=by cases b<;>first | rfl | (simp[RF.dR] at h)
theorem Es {o1 o2:CmpOp}{r1 r2:R2}(q1:bP X (compareOp o1) r1)(q2:bP X (compareOp o2) r2)(h1:eN X W E (RF.a7 o1) r1)(h2:eN X W E (RF.a7 o2) r2)(ha:PE X a (tE X.K W E ca))(hb:PE X b (tE X.K W E cb))(hc:PE X c (tE X.K W E cc))(hs:RF.dR c=true):
 PE X (.Compare a [o1,o2] [b,c] pos) (tE X.K W E (RF.iq o1 o2 ca cb cc)):=
 (DT q1 q2 ha hb hc (nQ hs)).imp λ_ _ _ h=>wt h1 h2 h
theorem wu {o1 o2:CmpOp}{r1 r2:R2}(q1:bP X (compareOp o1) r1)(q2:bP X (compareOp o2) r2)(h1:eN X W E (RF.a7 o1) r1)(h2:eN X W E (RF.a7 o2) r2)(ha:PE X a (tE X.K W E ca))(hb:PE X b (tE X.K W E cb))(hc:PE X c (tE X.K W E cc))(hs:RF.dR c=true):
 PT X (.Compare a [o1,o2] [b,c] pos) (tT X.K W E (RF.aq (RF.iq o1 o2 ca cb cc))):=by
 refine(EF q1 q2 ha hb hc (nQ hs)).imp λσ H Q h=>?_;obtain⟨M,ρ,S,s,g⟩:=h;refine wt h1 h2 (Q:=λx H'=>∃k,x = .bl k/\Q k H') ⟨M,ρ,S,s,?_⟩;refine vq g λM1 H1 d v S1 c1 u1 r1 g1=>?_;cases d with
 | bl k=>cases r1;exact⟨k,rfl,av.now g1 c1 rfl⟩
 | _=>exact g1.elim
end
end L2
namespace L2
open PySem PySem.Spec PyProof.Rows
open RF (D O ae Tab)
section
variable {X:Cx}{W:bj}{E:XK}
theorem cD {M:List Addr}{H:Hp}{xs:List D}{v:V}(r:au M H (.tup xs) v):∃a vs,v = .ref a/\H a=some (.tup vs)/\ay M H xs vs:=by cases r with | tup h hs=>exact⟨_,_,rfl,h,hs⟩
theorem bw {M:List Addr}{H:Hp}{n:Nat}{v:V}(r:au M H (.ref n) v):∃a,v = .ref a/\M[n]?=some a:=by cases r with | ref h=>exact⟨_,rfl,h⟩
theorem nV {M:List Addr}{p:Addr}{H H':Hp}{S:ae}{K:Fg}(c:Cn K W M S H):au (M++[p]) (H') (.ref S.length) (.ref p):=.ref (by rw[<-c.len];simp)
theorem Cn.OG {K:Fg}{M:List Addr}{S:ae}{H:Hp}(c:Cn K W M S H){p:Addr}{xs:List D}{vs:List V}(hp:H p=none)(r:ay M H xs vs):Cn K W (M++[p]) (S++[.lst xs]) (upd H p (.lst vs)):=
 c.new hp rfl ⟨vs,az,r.up (iY hp)⟩
theorem iG {K:Fg}{M:List Addr}{S:ae}{H:Hp}{Q:VK}{xs:List D}{vs:List V}(g:av K W au E M H (RF.fz (.lst xs) S) Q)(c:Cn K W M S H)(r:ay M H xs vs):∀p,H p=none->Q (.ref p) (upd H p (.lst vs)):=λp hp=>
 av.at_ g (c.OG hp r) (iY hp) (nV c)
def Gy (K:Fg):R2:=λx y H Q=>pA (λi j=>.int (i+j)) x y H Q\/GU K x y H Q\/J3 x y H Q
theorem II:bP X (binaryOp .Add) (Gy X.K):=J2.or (JK.or LM)
theorem Cn.lst {K:Fg}{M:List Addr}{S:ae}{H:Hp}(c:Cn K W M S H){n:Nat}{a:Addr}{xs:List D}(h:S[n]?=some (.lst xs))(e:M[n]?=some a):∃vs,H a=some (.lst vs)/\ay M H xs vs:=c.at_ n _ a h e
theorem Cn.items {K:Fg}{M:List Addr}{S:ae}{H:Hp}(c:Cn K W M S H){n:Nat}{a:Addr}{xs:List D}(h:RF.itemsOf S (.ref n)=some xs)(e:M[n]?=some a):∃vs,cB K H a vs/\ay M H xs vs:=by
 unfold RF.itemsOf at h;dsimp only at h;split at h
 .rename_i ys hS;cases h;obtain⟨vs,h1,h2⟩:=c.lst hS e;exact⟨vs,cB.of h1,h2⟩
 .rename_i ys hS;cases h;obtain⟨vs,h1,h2⟩:=c.at_ n _ a hS e;exact⟨vs,h1.sq,h2⟩
 .cases h
theorem KY:eN X W E (RF.gw .Add) (Gy X.K):=by
 intro M S H x y u v Q c rx ry g
 change av X.K W au E M H (RF.EK x y S) Q at g
 unfold RF.EK at g;split at g
 .cases rx;cases ry;exact .inl ⟨_,_,rfl,rfl,av.now g c (.int _)⟩
 .rename_i xs ys;obtain⟨a,vs,rfl,ha,hx⟩:=cD rx;obtain⟨b,ws,rfl,hb,hy⟩:=cD ry;obtain⟨hz,g⟩:=av.guard g;have hz:xs.length+ys.length<=sizeLine:=of_decide_eq_true hz;refine .inr (.inl ⟨a,b,vs,ws,rfl,rfl,cz.of ha,cz.of hb,by rw[<-hx.length,<-hy.length];exact hz,λe=>?_,λ_ e=>?_,λ_ _ p hp=>?_⟩)
  .subst e;cases hx;exact av.now g c (.tup hb hy)
  .subst e;cases hy;rw[List.append_nil] at g;exact av.now g c (.tup ha hx)
  .exact av.at_ g (c.fresh hp) (bO hp) (.tup az ((hx.append hy).up (bO hp)))
 .rename_i m n;split at g
  .rename_i xs ys h1 h2;obtain⟨a,rfl,ea⟩:=bw rx;obtain⟨b,rfl,eb⟩:=bw ry;obtain⟨vs,ha,hx⟩:=c.lst h1 ea;obtain⟨ws,hb,hy⟩:=c.lst h2 eb;obtain⟨hz,g⟩:=av.guard g;have hz:xs.length+ys.length<=sizeLine:=of_decide_eq_true hz;exact .inr (.inr ⟨a,b,vs,ws,rfl,rfl,ha,hb,by rw[<-hx.length,<-hy.length];exact hz,iG g c (hx.append hy)⟩)
  .exact g.elim
 .exact g.elim
theorem vc {z:Int}{m:Nat}(h:z.natAbs<2 ^ m):Builtin.Int.intBits z<=m:=(PySem.intBits_le_iff (x:=z) (m:=m)).mpr h
theorem mulOk_of {a b:Int}(h:RF.ik a b=true):IntMulOk a b:=by
 unfold RF.ik at h;simp only[Bool.or_eq_true,Bool.and_eq_true,decide_eq_true_eq] at h;rcases h with (h | h) | ⟨h1,h2⟩
 .exact .of_left (vc h)
 .exact .of_right (vc h)
 .exact PySem.IntMulOk.of_bits (Nat.le_trans (vc h1) (by decide)) (Nat.le_trans (vc h2) (by decide))
theorem rK {op:Operator}{C:Int->Int->Prop}{f:Int->Int->Int}(h:∀(x y:D) (S:ae),RF.gw op x y S = .bad\/∃i j,x = .int i/\y = .int j/\C i j/\RF.gw op x y S = .ok (.int (f i j)) S):eN X W E (RF.gw op) (rI C λi j=>.int (f i j)):=by
 intro M S H x y u v Q c rx ry g;rcases h x y S with e | ⟨i,j,rfl,rfl,hc,e⟩
 .rw[e] at g;exact g.elim
 .rw[e] at g;cases rx;cases ry;exact⟨i,j,rfl,rfl,hc,av.now g c (.int _)⟩
def yes:Int->Int->Prop:=λ_ _=>True
theorem JD:bP X (binaryOp .Sub) (rI yes λi j=>.int (i-j)):=λpins s σ H x y v u Q I rx ry ⟨i,j,e1,e2,_,q⟩=>MD pins s σ H x y v u Q I rx ry ⟨i,j,e1,e2,q⟩
theorem KU:eN X W E (RF.gw .Sub) (rI yes λi j=>.int (i-j)):=rK λx y S=>by cases x<;>cases y<;>first | exact .inl rfl | exact .inr ⟨_,_,rfl,rfl,trivial,rfl⟩
def G8:R2:=λx y H Q=>rI IntMulOk (λi j=>.int (i*j)) x y H Q\/Lu x y H Q
theorem IQ:bP X (binaryOp .Mult) G8:=HR.or KW
theorem ay.flat {M:List Addr}{H:Hp}{xs:List D}{vs:List V}(h:ay M H xs vs):∀k:Nat,ay M H (List.replicate k xs).flatten (List.replicate k vs).flatten
 | 0=>.nil
 | k+1=>by rw[List.replicate_succ,List.replicate_succ,List.flatten_cons,List.flatten_cons];exact h.append (ay.flat h k)
theorem K1:eN X W E (RF.gw .Mult) G8:=by
 intro M S H x y u v Q c rx ry g
 change av X.K W au E M H (RF.Fd x y S) Q at g
 unfold RF.Fd at g;split at g
 .cases rx;cases ry;obtain⟨hz,g⟩:=av.guard g;exact .inl ⟨_,_,rfl,rfl,mulOk_of hz,av.now g c (.int _)⟩
 .rename_i l k;split at g
  .rename_i xs h1;obtain⟨a,rfl,ea⟩:=bw rx;cases ry;obtain⟨vs,ha,hx⟩:=c.lst h1 ea;obtain⟨hz,g⟩:=av.guard g;simp only[Bool.and_eq_true,decide_eq_true_eq] at hz;obtain⟨⟨z1,z2⟩,z3⟩:=hz;exact .inr ⟨a,k,vs,rfl,rfl,ha,z1,z2,by rw[<-hx.length];exact z3,iG g c (hx.flat _)⟩
  .exact g.elim
 .exact g.elim
theorem Jx:eN X W E (RF.gw .FloorDiv) (rI Ge λi j=>.int (i / j)):=rK λx y S=>by
 cases x<;>cases y<;>first | exact .inl rfl | skip
 rename_i i j;cases e:(decide (0<j)&&decide (j<2 ^ 250)) with
 | false=>left;show RF.aB _ _=_;rw[e];rfl
 | true=>
  refine .inr ⟨i,j,rfl,rfl,?_,by show RF.aB _ _=_;rw[e];rfl⟩;simp only[Bool.and_eq_true,decide_eq_true_eq] at e;refine⟨e.1,?_⟩;have h2:j.natAbs<2 ^ 250:=by omega
  exact Nat.lt_of_lt_of_le ((Nat.log2_lt (by omega)).mpr h2) (by decide)
theorem Ko:eN X W E (RF.gw .Mod) (rI (λ_ j=>0<j) λi j=>.int (i%j)):=rK λx y S=>by
 cases x<;>cases y<;>first | exact .inl rfl | skip
 rename_i i j;cases e:decide (0<j) with
 | false=>left;show RF.aB _ _=_;rw[e];rfl
 | true=>exact .inr ⟨i,j,rfl,rfl,of_decide_eq_true e,by show RF.aB _ _=_;rw[e];rfl⟩
theorem LH:eN X W E (RF.gw .Pow) (rI Md λi j=>.int (i ^ j.toNat)):=rK λx y S=>by
 cases x<;>cases y<;>first | exact .inl rfl | skip
 rename_i i j;cases e:(decide (i=10)&&(decide (j=18)||decide (j=9))) with
 | false=>left;show RF.aB _ _=_;rw[e];rfl
 | true=>
  refine .inr ⟨i,j,rfl,rfl,?_,?_⟩
  .simp only[Bool.and_eq_true,Bool.or_eq_true,decide_eq_true_eq] at e;obtain⟨rfl,rfl|rfl⟩:=e
   .exact⟨by decide,by decide,by decide⟩
   .exact⟨by decide,by decide,by decide⟩
  .show RF.aB _ _=_;rw[e];simp only[Bool.and_eq_true,Bool.or_eq_true,decide_eq_true_eq] at e;obtain⟨rfl,rfl|rfl⟩:=e
   .rfl
   .rfl
theorem Kb (op:Operator):∃r,bP X (binaryOp op) r/\eN X W E (RF.gw op) r:=by
 have no:∀op:Operator,(∀x y S,RF.gw op x y S = .bad)->∃r,bP X (binaryOp op) r/\eN X W E (RF.gw op) r:=λop h=>
  ⟨λ_ _ _ _=>False,λ_ _ _ _ _ _ _ _ _ _ _ _ z=>z.elim,λM S H x y u v Q c rx ry g=>by rw[h] at g;exact g.elim⟩
 cases op with
 | Add=>exact⟨_,II,KY⟩
 | Sub=>exact⟨_,JD,KU⟩
 | Mult=>exact⟨_,IQ,K1⟩
 | FloorDiv=>exact⟨_,FE,Jx⟩
 | Mod=>exact⟨_,mX,Ko⟩
 | Pow=>exact⟨_,Mh,LH⟩
 | _=>exact no _ λx y S=>by cases x<;>cases y<;>rfl
end
end L2
namespace L2
open PySem PySem.Spec PyProof.Rows
open RF (D O ae Tab)
section
variable {X:Cx}{W:bj}{E:XK}{K:Fg}{M:List Addr}{S:ae}{H:Hp}
theorem l6 {d:D}{v:V}(f:RF.cM d=true)(r:au M H d v):lM v=true:=by cases r<;>first | rfl | (simp[RF.cM] at f)
theorem HI {x y:D}{u v:V}(fx:RF.cM x=true)(fy:RF.cM y=true)(rx:au M H x u)(ry:au M H y v):Ci u v=RF.j9 x y:=by cases rx<;>cases ry<;>first | rfl | (simp[RF.cM] at fx;done) | (simp[RF.cM] at fy;done)
theorem jX {f:D->D->Option Bool}:∀{xs ys:List D} {b:Bool},RF.jh f xs ys=some b->∃e:Nat->Bool,(∀j x y,xs[j]?=some x->ys[j]?=some y->f x y=some (e j))/\b=(List.range (min xs.length ys.length)).all e
 | [],_,b,h=>⟨λ_=>true,λj x y h1=>by simp at h1,by simp[RF.jh] at h;simp[<-h]⟩
 | x::xs,[],b,h=>⟨λ_=>true,λj x y _ h2=>by simp at h2,by simp[RF.jh] at h;simp[<-h]⟩
 | x::xs,y::ys,b,h=>by
  unfold RF.jh at h;split at h
  .rename_i p q h1 h2;cases h;obtain⟨e,e1,e2⟩:=jX h2;refine⟨λj=>match j with | 0=>p | j+1=>e j,λj x' y' g1 g2=>?_,?_⟩
   .cases j with
    | zero=>simp at g1 g2;subst g1 g2;exact h1
    | succ j=>exact e1 j x' y' (by simpa using g1) (by simpa using g2)
   .have:min (x::xs).length (y::ys).length=min xs.length ys.length+1:=by simp only[List.length_cons];omega
    rw[this,List.range_succ_eq_map,List.all_cons,List.all_map,e2];rfl
  .cases h
theorem fX (c:Cn K W M S H){n:Nat}{xs:List D}{v:V}(h:S[n]?=some (.lst xs))(r:au M H (.ref n) v):∃a vs,v = .ref a/\M[n]?=some a/\H a=some (.lst vs)/\ay M H xs vs:=by obtain⟨a,rfl,e⟩:=bw r;obtain⟨vs,h1,h2⟩:=c.lst h e;exact⟨a,vs,rfl,e,h1,h2⟩
theorem ay.at2 {ds es:List D}{vs:List V}(r:ay M H ds vs)(q:ay M H es vs){j:Nat}{x y:D}(h1:ds[j]?=some x)(h2:es[j]?=some y):∃v,au M H x v/\au M H y v:=by obtain⟨v,g1,g2⟩:=r.get h1;obtain⟨w,k1,k2⟩:=q.get h2;rw[g1] at k1;cases k1;exact⟨v,g2,k2⟩
theorem kO {n:Nat}{e:Nat->Bool}(h:∀j,j<n->e j=true):(List.range n).all e=true:=List.all_eq_true.mpr λj hj=>h j (List.mem_range.mp hj)
theorem mj (c:Cn K W M S H):∀(n:Nat) (x y:D) (v:V) (b:Bool),au M H x v->au M H y v->RF.cH S n x y=some b->b=true
 | 0,_,_,_,_,_,_,h=>by simp[RF.cH] at h
 | n+1,x,y,v,b,rx,ry,h=>by
  cases rx with
  | aj=>cases ry;simp[RF.cH,RF.cM,RF.j9] at h;exact h
  | bl k=>cases ry;simp[RF.cH,RF.cM,RF.j9] at h;exact h
  | int i=>cases ry;simp[RF.cH,RF.cM,RF.j9] at h;exact h
  | str z=>cases ry;simp[RF.cH,RF.cM,RF.j9] at h;exact h
  | tup ha hx=>
   cases ry with
   | tup hb hy=>
    rw[ha] at hb;cases hb;unfold RF.cH at h;cases q:RF.jh (RF.cH S n) _ _ with
    | none=>rw[q] at h;cases h
    | some b0=>rw[q] at h;cases h;obtain⟨e,e1,e2⟩:=jX q;have hl:=hx.length.trans hy.length.symm;rw[e2,Bool.and_eq_true];refine⟨kO λj hj=>?_,by simp[hl]⟩;have j1:j<_:=Nat.lt_of_lt_of_le hj (Nat.min_le_left _ _);have j2:j<_:=Nat.lt_of_lt_of_le hj (Nat.min_le_right _ _);obtain⟨w,r1,r2⟩:=hx.at2 hy (List.getElem?_eq_getElem j1) (List.getElem?_eq_getElem j2);exact mj c n _ _ w _ r1 r2 (e1 j _ _ (List.getElem?_eq_getElem j1) (List.getElem?_eq_getElem j2))
   | ref hm=>
    unfold RF.cH at h;split at h
    .rename_i z;cases z
    .cases h
  | ref hm=>
   cases ry with
   | tup hb hy=>
    unfold RF.cH at h;split at h
    .rename_i z;cases z
    .cases h
   | ref uH=>
    rename_i n1 a n2;unfold RF.cH at h;split at h
    .rename_i xs ys h1 h2;have e:n1=n2:=c.sep n1 n2 a hm uH (by rw[h1];rfl) (by rw[h2];rfl);subst e;rw[h1] at h2;cases h2;rw[if_pos rfl] at h;obtain⟨e,e1,e2⟩:=jX h;rw[e2];refine kO λj hj=>?_;have j1:j<xs.length:=Nat.lt_of_lt_of_le hj (Nat.min_le_left _ _);obtain⟨vs,_,hx⟩:=c.lst h1 hm;obtain⟨w,r1,r2⟩:=hx.at2 hx (List.getElem?_eq_getElem j1) (List.getElem?_eq_getElem j1);exact mj c n _ _ w _ r1 r2 (e1 j _ _ (List.getElem?_eq_getElem j1) (List.getElem?_eq_getElem j1))
    .cases h
theorem kZ (c:Cn K W M S H):∀(n:Nat) (x y:D) (u v:V) (b:Bool),au M H x u->au M H y v->RF.cH S n x y=some b->jf K H n u v b
 | 0,_,_,_,_,_,_,_,h=>by simp[RF.cH] at h
 | n+1,x,y,u,v,b,rx,ry,h=>by
  by_cases hf:(RF.cM x&&RF.cM y)=true
  .have zq:=hf;simp only[Bool.and_eq_true] at zq;have e:RF.cH S (n+1) x y=some (RF.j9 x y):=by cases x<;>cases y<;>first | rfl | (simp[RF.cM] at zq;done)
   rw[e] at h;cases h;rw[<-HI zq.1 zq.2 rx ry];exact D9 (l6 zq.1 rx) (l6 zq.2 ry)
  .cases x with
   | tup xs=>
    obtain⟨a,vs,rfl,ha,hx⟩:=cD rx;cases y with
    | tup ys=>
     obtain⟨b',ws,rfl,hb,hy⟩:=cD ry;have same:=h;unfold RF.cH at h;cases q:RF.jh (RF.cH S n) xs ys with
     | none=>rw[q] at h;cases h
     | some b0=>
      rw[q] at h;obtain⟨e,e1,e2⟩:=jX q;have hb':b=((List.range (min vs.length ws.length)).all e&&vs.length==ws.length):=by rw[<-hx.length,<-hy.length,<-e2];exact(Option.some.inj h).symm
      subst hb';refine Ac (cz.of ha) (cz.of hb) (λz=>?_) λj p q' h1 h2=>?_
      .subst z;rw[hb] at ha;cases ha;exact mj c (n+1) _ _ (.ref a) _ (.tup hb hx) (.tup hb hy) same
      .obtain⟨dx,g1,g2⟩:=hx.get' h1;obtain⟨dy,k1,k2⟩:=hy.get' h2;exact kZ c n dx dy p q' _ g2 k2 (e1 j dx dy g1 k1)
    | ref j=>simp[RF.cH,RF.cM] at h
    | _=>
     have:b=false:=by simp[RF.cH,RF.cM] at h;exact h
     subst this;exact v8 (cz.of ha) (l6 (d:=_) rfl ry)
   | ref i=>
    cases y with
    | ref j=>
     have same:=h;unfold RF.cH at h;split at h
     .rename_i xs ys h1 h2;obtain⟨a,vs,rfl,ea,ha,hx⟩:=fX c h1 rx;obtain⟨b',ws,rfl,eb,hb,hy⟩:=fX c h2 ry;split at h
      .rename_i hl;obtain⟨e,e1,e2⟩:=jX h;have hb':b=(List.range vs.length).all e:=by rw[e2,<-hx.length,hl,Nat.min_self]
       subst hb';refine tR (cB.of ha) (cB.of hb) (by rw[<-hx.length,<-hy.length];exact hl) (λz=>?_) λj p q' g1 g2=>?_
       .subst z;exact mj c (n+1) _ _ (.ref a) _ (.ref ea) (.ref eb) same
       .obtain⟨dx,k1,k2⟩:=hx.get' g1;obtain⟨dy,l1,l2⟩:=hy.get' g2;exact kZ c n dx dy p q' _ k2 l2 (e1 j dx dy k1 l1)
      .rename_i hl;cases h;exact mw (cB.of ha) (cB.of hb) (by rw[<-hx.length,<-hy.length];exact hl)
     .cases h
    | tup ys=>simp[RF.cH,RF.cM] at h
    | _=>simp[RF.cH,RF.cM] at h
   | _=>
    cases y with
    | tup ys=>
     obtain⟨a,vs,rfl,ha,hx⟩:=cD ry;have:b=false:=by simp[RF.cH,RF.cM] at h;exact h
     subst this;exact vy (cz.of ha) (l6 (d:=_) rfl rx)
    | _=>simp[RF.cH,RF.cM] at h hf
mutual
theorem tU {x y:D}{v:V}(hx:RF.bU x=true)(hy:RF.bU y=true)(rx:au M H x v)(ry:au M H y v):x=y:=by
 cases rx with
 | aj=>cases ry;rfl
 | bl b=>cases ry;rfl
 | int i=>cases ry;rfl
 | str z=>cases ry;rfl
 | ref h=>cases hx
 | tup ha rs=>
  cases ry with
  | ref h=>cases hy
  | tup hb qs=>rw[ha] at hb;cases hb;unfold RF.bU at hx hy;rw[qB hx hy rs qs]
theorem qB {xs ys:List D}{vs:List V}(hx:RF.bU.many xs=true)(hy:RF.bU.many ys=true)(rx:ay M H xs vs)(ry:ay M H ys vs):xs=ys:=by
 cases rx with
 | nil=>cases ry;rfl
 | cons h hs=>
  cases ry with
  | cons k ks=>unfold RF.bU.many at hx hy;simp only[Bool.and_eq_true] at hx hy;rw[tU hx.1 hy.1 h k,qB hx.2 hy.2 hs ks]
end
theorem wJ {xs:List D}(h:RF.bU.many xs=true){x:D}(hx:x∈xs):RF.bU x=true:=by
 induction xs with
 | nil=>cases hx
 | cons y ys ih=>
  unfold RF.bU.many at h;simp only[Bool.and_eq_true] at h;rcases List.mem_cons.mp hx with rfl | hx
  .exact h.1
  .exact ih h.2 hx
theorem D4 {f:D->Option Bool}{xs:List D}{b:Bool}(h:RF.kL f xs=some b){x:D}(hx:x∈xs):(f x).isSome=true:=by
 induction xs generalizing b with
 | nil=>cases hx
 | cons y ys ih=>
  unfold RF.kL at h;split at h
  .rename_i p q h1 h2;rcases List.mem_cons.mp hx with rfl | hx
   .rw[h1];rfl
   .exact ih h2 hx
  .cases h
theorem FI {f:D->Option Bool}{xs:List D}{b:Bool}(h:RF.kL f xs=some b):b=xs.any λx=>f x==some true:=by
 induction xs generalizing b with
 | nil=>cases h;rfl
 | cons y ys ih=>
  unfold RF.kL at h;split at h
  .rename_i p q h1 h2;cases h;rw[List.any_cons,h1,ih h2];cases p<;>rfl
  .cases h
theorem Ig (c:Cn K W M S H){x:D}{u:V}{ys:List D}{vs:List V}{b:Bool}(hx:RF.bU x=true)(hy:RF.bU.many ys=true)(rx:au M H x u)(r:ay M H ys vs)(h:RF.kL (λz=>RF.cH S 4 z x) ys=some b):
 ∃g:V->Bool,(∀z∈vs,jf K H 4 z u (g z))/\vs.any g=b:=by
 classical
 let g:V->Bool:=λz=>decide (∃d∈ys,au M H d z/\RF.cH S 4 d x=some true)
 have key:∀d∈ys,∀z,au M H d z->RF.cH S 4 d x=some (g z):=by
  intro d hd z rz;cases q:RF.cH S 4 d x with
  | none=>have:=D4 h hd;rw[q] at this;cases this
  | some k=>
   congr 1
   cases k with
   | true=>exact(decide_eq_true ⟨d,hd,rz,q⟩).symm
   | false=>refine(decide_eq_false ?_).symm;rintro⟨d',jo,rz',q'⟩;rw[tU (wJ hy hd) (wJ hy jo) rz rz'] at q;rw[q] at q';cases q'
 refine⟨g,λz hz=>?_,?_⟩
 .obtain⟨i,hi⟩:=List.getElem?_of_mem hz;obtain⟨d,h1,h2⟩:=r.get' hi;exact kZ c 4 d x z u _ h2 rx (key d (List.mem_of_getElem? h1) z h2)
 .rw[FI h];clear h;have:∀(ds:List D) (ws:List V),ay M H ds ws->(∀d∈ds,d∈ys)->ws.any g=ds.any λz=>RF.cH S 4 z x==some true:=by
   intro ds
   induction ds with
   | nil=>intro ws r _;cases r;rfl
   | cons d ds ih=>
    intro ws r hm;cases r with
    | cons k ks=>rw[List.any_cons,List.any_cons,ih _ ks λe he=>hm e (List.mem_cons_of_mem _ he),key d (hm d (List.mem_cons_self ..)) _ k];cases g _<;>rfl
  exact this ys vs r λ_ h=>h
theorem tX (c:Cn K W M S H){x y:D}{u v:V}{b:Bool}(rx:au M H x u)(ry:au M H y v)(h:RF.iQ S RF.depth x y=some b):jf K H RF.depth u v b:=by
 unfold RF.iQ at h;split at h
 .rename_i i j;split at h
  .rename_i xs h1 h2;cases h;obtain⟨a,rfl,ea⟩:=bw rx;obtain⟨b',ws,rfl,eb,hb,hy⟩:=fX c h2 ry;cases hy;obtain⟨vs,ha,hx⟩:=c.at_ i _ a h1 ea;cases hx with
   | nil=>exact Lk (n:=1) (tR (n:=0) (e:=λ_=>true) ha.sq (cB.of hb) rfl (λ_=>rfl) λj p q g1=>by simp at g1) (by decide)
   | cons _ _=>exact mw ha.sq (cB.of hb) (by simp)
  .exact kZ c _ _ _ _ _ _ rx ry h
 .exact kZ c _ _ _ _ _ _ rx ry h
theorem sZ {o:Option Bool}{Q:VK}(g:av K W au E M H (RF.eo o S) Q)(c:Cn K W M S H):∃b,o=some b/\Q (.bl b) H:=by
 cases o with
 | none=>exact g.elim
 | some b=>exact⟨b,rfl,av.now g c (.bl b)⟩
theorem os_eq:eN X W E (RF.a7 .Eq) (Ml X.K RF.depth):=by intro M S H x y u v Q c rx ry g;obtain⟨b,h,q⟩:=sZ g c;exact⟨b,tX c rx ry h,q⟩
theorem Nz:eN X W E (RF.a7 .NotEq) (KJ X.K RF.depth):=by intro M S H x y u v Q c rx ry g;obtain⟨b,h,q⟩:=sZ g c;obtain⟨b',h',e⟩:=Option.map_eq_some_iff.mp h;subst e;exact⟨b',tX c rx ry h',q⟩
theorem rD {op:CmpOp}{f:Int->Int->Bool}(h:∀(x y:D) (S:ae),RF.a7 op x y S = .bad\/∃i j,x = .int i/\y = .int j/\RF.a7 op x y S = .ok (.bl (f i j)) S):eN X W E (RF.a7 op) (pA λi j=>.bl (f i j)):=by
 intro M S H x y u v Q c rx ry g;rcases h x y S with e | ⟨i,j,rfl,rfl,e⟩
 .rw[e] at g;exact g.elim
 .rw[e] at g;cases rx;cases ry;exact⟨i,j,rfl,rfl,av.now g c (.bl _)⟩
theorem yv {d:D}{v:V}(r:au M H d v):decide (v = .aj)=decide (d = .aj):=by cases r<;>simp
theorem Ni:eN X W E (RF.a7 .Is) (λx y H Q=>y = .aj/\Q (.bl (decide (x = .aj))) H):=by
 intro M S H x y u v Q c rx ry g
 change av X.K W au E M H (if y = .aj then .ok (.bl (decide (x = .aj))) S else .bad) Q at g
 split at g
 .rename_i e;subst e;cases ry;rw[yv rx];exact⟨rfl,av.now g c (.bl _)⟩
 .exact g.elim
theorem EW:eN X W E (RF.a7 .IsNot) (λx y H Q=>y = .aj/\Q (.bl (!decide (x = .aj))) H):=by
 intro M S H x y u v Q c rx ry g
 change av X.K W au E M H (if y = .aj then .ok (.bl (!decide (x = .aj))) S else .bad) Q at g
 split at g
 .rename_i e;subst e;cases ry;rw[yv rx];exact⟨rfl,av.now g c (.bl _)⟩
 .exact g.elim
theorem fR {κ:Type}[DecidableEq κ]{f:κ->D}(hf:∀a b,f a=f b->a=b){af:List (D×D)}{ks:List (κ×V)}(h:Paired (cm f M H) af ks)(k:κ):
 (RF.bB af (f k)=none/\cX ks k=none)\/∃d v,RF.bB af (f k)=some d/\cX ks k=some v/\au M H d v:=by
 induction h with
 | nil=>exact .inl ⟨rfl,rfl⟩
 | @cons p q af ks r t ih=>
  obtain⟨r1,r2⟩:=r
  by_cases e:q.1=k
  .refine .inr ⟨p.2,q.2,?_,jO e,r2⟩;simp[RF.bB,List.find?_cons,r1,e]
  .have e':¬p.1=f k:=λz=>e (hf _ _ (r1.symm.trans z));have h1:RF.bB (p::af) (f k)=RF.bB af (f k):=by simp[RF.bB,List.find?_cons,e']
   rw[h1,jY e];exact ih
theorem mS {f:D->Bool}{af:List (D×D)}{k:D}(h:(af.all λkv=>f kv.1)=true)(hk:f k=false):RF.bB af k=none:=by
 unfold RF.bB;rw[List.find?_eq_none.mpr]
 .rfl
 .intro p hp e;have:=List.all_eq_true.mp h p hp;rw[of_decide_eq_true e,hk] at this;cases this
theorem gz {k:D}(h:RF.dr k=true):RF.aY k=false:=by cases k<;>first | rfl | (simp[RF.dr] at h)
theorem kG {k:D}(h:RF.aY k=true):RF.dr k=false:=by cases k<;>first | rfl | (simp[RF.aY] at h)
theorem gN {af:List (D×D)}{ks:List (Key×V)}(h:Paired (cm dO M H) af ks):(af.all λkv=>RF.dr kv.1)=true:=by
 induction h with
 | nil=>rfl
 | cons r _ ih=>rw[List.all_cons,r.1,mF,ih];rfl
theorem wR {af:List (D×D)}{ts:List (List Key×V)}(h:Paired (cm ofKeys M H) af ts):(af.all λkv=>RF.aY kv.1)=true:=by
 induction h with
 | nil=>rfl
 | cons r _ ih=>rw[List.all_cons,r.1,uM,ih];rfl
theorem Cn.af (c:Cn K W M S H){d:D}{u:V}{af:List (D×D)}(h:RF.kvsOf S d=some af)(r:au M H d u):∃n a,d = .ref n/\u = .ref a/\M[n]?=some a /\
 ((∃ks:List (Key×V),Rd H a (.dK ks)/\Paired (cm dO M H) af ks)\/∃ts:List (List Key×V),Rd H a (.dT ts)/\Paired (cm ofKeys M H) af ts):=by
 unfold RF.kvsOf at h;split at h
 .rename_i n;obtain⟨a,rfl,e⟩:=bw r;refine⟨n,a,rfl,rfl,e,?_⟩;split at h
  .rename_i hS;cases h;rcases c.at_ n _ a hS e with⟨ks,h1,h2⟩|⟨ts,h1,h2⟩
   .exact .inl ⟨ks,.inl h1,h2⟩
   .exact .inr ⟨ts,.inl h1,h2⟩
  .rename_i hS;cases h;obtain⟨o,ts,h1,h2⟩:=c.at_ n _ a hS e;exact .inr ⟨ts,.inr ⟨o,h1⟩,h2⟩
  .cases h
 .cases h
end
end L2
namespace L2
open PySem PySem.Spec PyProof.Rows
open RF (D O ae Tab)
def kh (H:Hp)(a:Addr)(H':Hp):Prop:=(H a=some (.dK [])/\H'=upd H a (.dT []))\/(H a=some (.dT [])/\H'=upd H a (.dK []))
section
variable {X:Cx}{pins:List (Addr×Obj)}{σ:St}{H H':Hp}{s:Sh}{a:Addr}
theorem Inv.ret (I:Inv X pins σ H s)(h:kh H a H'):Inv X pins σ H' s:=by
 rcases h with⟨e,rfl⟩|⟨e,rfl⟩
 .obtain⟨z,y,vs,r,o,es,ep,g,ex,d,kf,ps,nd⟩:=I.aw a _ e;have hv:vs=[]:=by cases r;rfl
  subst hv;have he:es.toList=[]:=by
   revert ps
   generalize es.toList=l;intro ps;cases ps;rfl
  exact I.write (h':=s.heap) (t':=s.toks) (e:=a) (by rw[e];trivial) (.inl rfl) (λb u _ q=>q) ⟨o,g⟩ ⟨Nat.zero_le _,y,[],.nil,o,es,ep,g,ex,d,he,List.nodup_nil⟩
 .obtain⟨z,y,xs,r,o,es,ep,g,ex,d,he,nd⟩:=I.aw a _ e;have hv:xs=[]:=by cases r;rfl
  subst hv;have he:es = #[]:=by have:es.toList=[]:=he;exact Array.toList_eq_nil_iff.mp this
  subst he;have y':(a==sysModules)=false:=y;refine I.write (h':=s.heap) (t':=s.toks) (e:=a) (by rw[e];trivial) (.inl rfl) (λb u _ q=>q) ⟨o,g⟩ ⟨Nat.zero_le _,y',[],.nil,o,#[],ep,g,ex,d,?_,.nil,List.nodup_nil⟩
  first | exact λ_ hx=>by simp at hx | (intro i;simp) | (constructor<;>simp) | simp[KeysOf]
end
section
variable {X:Cx}{W:bj}{E:XK}{K:Fg}{M:List Addr}{S:ae}{H H':Hp}
theorem Cn.ret (c:Cn K W M S H){n:Nat}{a:Addr}(hS:S[n]?=some (.aG []))(hM:M[n]?=some a)(h:kh H a H'):Cn K W M S H'/\Up M H M H':=by
 have hs:S.set n (.aG [])=S:=by
  refine List.ext_getElem? λi=>?_
  by_cases e:n=i
  .subst e;rw[List.getElem?_set_self (List.getElem?_eq_some_iff.mp hS).1,hS]
  .rw[List.getElem?_set_ne e]
 rcases h with⟨e,rfl⟩|⟨e,rfl⟩
 .have nt:c7 (H a):=dN e rfl;have:=c.put (o':=.aG []) (ho':=.dT []) hS hM rfl rfl nt (.inr ⟨[],az,.nil⟩);rw[hs] at this;exact⟨this,aO nt⟩
 .have nt:c7 (H a):=dN e rfl;have:=c.put (o':=.aG []) (ho':=.dK []) hS hM rfl rfl nt (.inl ⟨[],az,.nil⟩);rw[hs] at this;exact⟨this,aO nt⟩
theorem all_nil {f g:D->Bool}{af:List (D×D)}(h1:(af.all λkv=>f kv.1)=true)(h2:(af.all λkv=>g kv.1)=true)(hd:∀k,f k=true->g k=false):af=[]:=by
 cases af with
 | nil=>rfl
 | cons p r=>simp only[List.all_cons,Bool.and_eq_true] at h1 h2;rw[hd _ h1.1] at h2;cases h2.1
theorem pS (c:Cn K W M S H){n:Nat}{a:Addr}{af:List (D×D)}{k:D}{u:V}(hS:S[n]?=some (.aG af))(hM:M[n]?=some a)(hf:RF.bX af k=true)(r:au M H k u):
 ∃H',(H'=H\/kh H a H')/\Cn K W M S H'/\Up M H M H' /\
  ((∃(ks:List (Key×V)) (q:Key),H' a=some (.dK ks)/\Paired (cm dO M H') af ks/\k=dO q/\u=kV q) \/
   ∃(ts:List (List Key×V)) (q:List Key) (b:Addr),H' a=some (.dT ts)/\Paired (cm ofKeys M H') af ts/\k=ofKeys q/\u = .ref b/\H' b=some (.tup (q.map kV))):=by
 have MZ:∀{H':Hp} (q:List Key),au M H' (ofKeys q) u->∃b,u = .ref b/\H' b=some (.tup (q.map kV)):=λq r=>by obtain⟨b,vs,e,hb,hs⟩:=cD r;rw[lx hs] at hb;exact⟨b,e,hb⟩
 unfold RF.bX at hf;simp only[Bool.or_eq_true,Bool.and_eq_true] at hf;rcases c.at_ n _ a hS hM with⟨ks,h1,h2⟩|⟨ts,h1,h2⟩
 .rcases hf with⟨f1,f2⟩|⟨f1,f2⟩
  .obtain⟨q,rfl⟩:=jz f1;exact⟨H,.inl rfl,c,Up.refl _ _,.inl ⟨ks,q,h1,h2,rfl,rg r⟩⟩
  .have:=all_nil (gN h2) f2 (λk=>gz);subst this;cases h2;obtain⟨q,rfl⟩:=gR f1;have re:kh H a (upd H a (.dT [])):=.inl ⟨h1,rfl⟩;obtain⟨c',u'⟩:=c.ret hS hM re;obtain⟨b,e,hb⟩:=MZ q (r.up u');exact⟨_,.inr re,c',u',.inr ⟨[],q,b,az,.nil,rfl,e,hb⟩⟩
 .rcases hf with⟨f1,f2⟩|⟨f1,f2⟩
  .have:=all_nil (wR h2) f2 (λk=>kG);subst this;cases h2;obtain⟨q,rfl⟩:=jz f1;have re:kh H a (upd H a (.dK [])):=.inr ⟨h1,rfl⟩;obtain⟨c',u'⟩:=c.ret hS hM re;exact⟨_,.inr re,c',u',.inl ⟨[],q,az,.nil,rfl,rg r⟩⟩
  .obtain⟨q,rfl⟩:=gR f1;obtain⟨b,e,hb⟩:=MZ q r;exact⟨H,.inl rfl,c,Up.refl _ _,.inr ⟨ts,q,b,h1,h2,rfl,e,hb⟩⟩
theorem wL (c:Cn K W M S H){x k:D}{u v:V}{o:Option D}(rx:au M H x u)(rk:au M H k v)(h:RF.kz S x k=some o):
 ∃a H' p,u = .ref a/\(H'=H\/kh H a H')/\Cn K W M S H'/\Up M H M H'/\iC H' a v p/\((o=none/\p=none)\/∃d w,o=some d/\p=some w/\au M H' d w):=by
 unfold RF.kz at h;split at h
 .rename_i n;obtain⟨a,rfl,e⟩:=bw rx;split at h
  .rename_i af hS;split at h
   .rename_i hf;cases h;obtain⟨H',hr,c',u',g⟩:=pS c hS e hf rk;rcases g with⟨ks,q,g1,g2,rfl,rfl⟩|⟨ts,q,b,g1,g2,rfl,rfl,g3⟩
    .refine⟨a,H',_,rfl,hr,c',u',iC.k g1,?_⟩;rcases fR (λ_ _=>jc) g2 q with⟨z1,z2⟩|⟨d,w,z1,z2,z3⟩
     .exact .inl ⟨z1,z2⟩
     .exact .inr ⟨d,w,z1,z2,z3⟩
    .refine⟨a,H',_,rfl,hr,c',u',iC.t g1 g3,?_⟩;rcases fR (λ_ _=>dJ) g2 q with⟨z1,z2⟩|⟨d,w,z1,z2,z3⟩
     .exact .inl ⟨z1,z2⟩
     .exact .inr ⟨d,w,z1,z2,z3⟩
   .cases h
  .rename_i af hS;split at h
   .rename_i hf;cases h;obtain⟨ob,ts,g1,g2⟩:=c.at_ n _ a hS e;obtain⟨q,rfl⟩:=gR hf;obtain⟨b,vs,rfl,hb,hs⟩:=cD rk;rw[lx hs] at hb;refine⟨a,H,cX ts q,rfl,.inl rfl,c,Up.refl _ _,.inr ⟨ts,q,b,.inr ⟨ob,g1⟩,rfl,hb,rfl⟩,?_⟩;rcases fR (λ_ _=>dJ) g2 q with⟨z1,z2⟩|⟨d,w,z1,z2,z3⟩
    .exact .inl ⟨z1,z2⟩
    .exact .inr ⟨d,w,z1,z2,z3⟩
   .cases h
  .cases h
 .cases h
def EE (neg:Bool):R2:=λx y H Q=>∃a H' o,y = .ref a/\(H'=H\/kh H a H')/\iC H' a x o/\Q (.bl (if neg then !o.isSome else o.isSome)) H'
theorem Lz (hu:X.A.units+1<cLine):bP X (compareOp .In) (EE false):=by
 intro pins s σ H x y v u Q I rx ry h;obtain⟨a,H',o,rfl,hr,g,q⟩:=h;cases ry;have I':Inv X pins σ H' s:=by
  rcases hr with rfl | hr
  .exact I
  .exact I.ret hr
 exact OO hu I' g rx λs' I''=>⟨.bl o.isSome,H',I'',rfl,q⟩
theorem BV (hu:X.A.units+1<cLine):bP X (compareOp .NotIn) (EE true):=by
 intro pins s σ H x y v u Q I rx ry h;obtain⟨a,H',o,rfl,hr,g,q⟩:=h;cases ry;have I':Inv X pins σ H' s:=by
  rcases hr with rfl | hr
  .exact I
  .exact I.ret hr
 exact Io hu I' g rx λs' I''=>⟨.bl (!o.isSome),H',I'',rfl,q⟩
def Kv (neg:Bool):R2:=λx y H Q=>∃i j,x = .str i/\y = .str j/\Q (.bl (if neg then !(!(Builtin.Str.occurrences j i 0 j.length 1).isEmpty) else !(Builtin.Str.occurrences j i 0 j.length 1).isEmpty)) H
def vv (K:Fg)(neg:Bool):R2:=λx y H Q=>EE neg x y H Q\/FN K 4 neg x y H Q\/Kv neg x y H Q
theorem K4 (hu:X.A.units+RF.depth<cLine):bP X (compareOp .In) (vv X.K false):=(Lz (Nat.lt_of_le_of_lt (Nat.add_le_add_left (by decide) _) hu)).or ((MF (Nat.lt_of_le_of_lt (by rw[Nat.add_assoc];exact Nat.add_le_add_left (by decide) _) hu)).or Dd)
theorem BW (hu:X.A.units+RF.depth<cLine):bP X (compareOp .NotIn) (vv X.K true):=(BV (Nat.lt_of_le_of_lt (Nat.add_le_add_left (by decide) _) hu)).or ((BP (Nat.lt_of_le_of_lt (by rw[Nat.add_assoc];exact Nat.add_le_add_left (by decide) _) hu)).or vY)
theorem l4 (c:Cn K W M S H){x:D}{u:V}{xs:List D}(h:RF.itemsOf S x=some xs)(r:au M H x u):∃a vs,u = .ref a/\(cB K H a vs\/cz K H a vs)/\ay M H xs vs:=by
 cases x with
 | tup ys=>cases h;obtain⟨a,vs,rfl,ha,hx⟩:=cD r;exact⟨a,vs,rfl,.inr (cz.of ha),hx⟩
 | ref n=>obtain⟨a,rfl,e⟩:=bw r;obtain⟨vs,h1,h2⟩:=c.items h e;exact⟨a,vs,rfl,.inl h1,h2⟩
 | _=>cases h
theorem G4 (c:Cn K W M S H){x y:D}{u v:V}{b:Bool}{neg:Bool}{Q:VK}(rx:au M H x u)(ry:au M H y v)(h:RF.inD S x y=some b)(q:∀H',Cn K W M S H'->Up M H M H'->Q (.bl (if neg then !b else b)) H'):vv K neg u v H Q:=by
 unfold RF.inD at h;split at h
 .obtain⟨o,h1,h2⟩:=Option.map_eq_some_iff.mp h;obtain⟨a,H',p,e,hr,c',u',g,z⟩:=wL c ry rx h1;refine .inl ⟨a,H',p,e,hr,g,?_⟩;have:p.isSome=b:=by rw[<-h2];rcases z with⟨rfl,rfl⟩|⟨d,w,rfl,rfl,_⟩<;>rfl
  rw[this];exact q H' c' u'
 .split at h
  .rename_i ys hi;split at h
   .rename_i hf;simp only[Bool.and_eq_true] at hf;obtain⟨a,vs,rfl,hs,hv⟩:=l4 c hi ry;obtain⟨g,g1,g2⟩:=Ig c hf.1 hf.2 rx hv h;refine .inr (.inl ⟨a,vs,g,rfl,hs,g1,?_⟩);rw[g2];exact q H c (Up.refl _ _)
   .cases h
  .split at h
   .cases h;cases rx;cases ry;exact .inr (.inr ⟨_,_,rfl,rfl,q H c (Up.refl _ _)⟩)
   .cases h
theorem NY:eN X W E (RF.a7 .In) (vv X.K false):=by
 intro M S H x y u v Q c rx ry g;have g:av X.K W au E M H (RF.eo (RF.inD S x y) S) Q:=g;cases h:RF.inD S x y with
 | none=>rw[h] at g;exact g.elim
 | some b=>rw[h] at g;exact G4 c rx ry h λH' c' u'=>av.at_ g c' u' (.bl b)
theorem EG:eN X W E (RF.a7 .NotIn) (vv X.K true):=by
 intro M S H x y u v Q c rx ry g;have g:av X.K W au E M H (RF.eo ((RF.inD S x y).map (! ·)) S) Q:=g;cases h:RF.inD S x y with
 | none=>rw[h] at g;exact g.elim
 | some b=>rw[h] at g;exact G4 c rx ry h λH' c' u'=>av.at_ g c' u' (.bl !b)
theorem kX (hu:X.A.units+RF.depth<cLine)(op:CmpOp):∃r,bP X (compareOp op) r/\eN X W E (RF.a7 op) r:=by
 have hu1:X.A.units+1<cLine:=Nat.lt_of_le_of_lt (Nat.add_le_add_left (by decide) _) hu;cases op with
 | Eq=>exact⟨_,Kj hu,os_eq⟩
 | NotEq=>exact⟨_,Ka hu,Nz⟩
 | Lt=>exact⟨_,Ng,rD λx y S=>by cases x<;>cases y<;>first | exact .inl rfl | exact .inr ⟨_,_,rfl,rfl,rfl⟩⟩
 | LtE=>exact⟨_,N5,rD λx y S=>by cases x<;>cases y<;>first | exact .inl rfl | exact .inr ⟨_,_,rfl,rfl,rfl⟩⟩
 | Gt=>exact⟨_,N6,rD λx y S=>by cases x<;>cases y<;>first | exact .inl rfl | exact .inr ⟨_,_,rfl,rfl,rfl⟩⟩
 | GtE=>exact⟨_,NZ,rD λx y S=>by cases x<;>cases y<;>first | exact .inl rfl | exact .inr ⟨_,_,rfl,rfl,rfl⟩⟩
 | Is=>exact⟨_,Kp,Ni⟩
 | IsNot=>exact⟨_,HE,EW⟩
 | In=>exact⟨_,K4 hu,NY⟩
 | NotIn=>exact⟨_,BW hu,EG⟩
end
end L2
namespace L2
open PySem PySem.Spec PyProof.Rows PySem.W Builtin Builtin.ObjectAttr
section
variable {prog:Program}{w:World}{A:Around}{E:Value->Sh->Prop}{s:Sh}{K:Fg}{x C B:Addr}{ox:Obj}{f:Str}{v:Value}
end
end L2
namespace L2
open PySem PySem.Spec PyProof.Rows PySem.W
section
variable {prog:Program}{w:World}{A:Around}{E:Value->Sh->Prop}{h:Heap}{g:Array GenState}{d:Drawn}{t:Nat}{os:OsState}
variable {nm q:Str}{C N:Addr}{bs bm:List Value}{hdct:Bool}{sn:List Str}{sub:List Value}{ab:Bool}{col:Option Bool}{dd:Option Addr}{k0 k1 k2 k3 k5:Option Value}
end
end L2
namespace L2
open PySem PySem.Spec PyProof.Rows
section
variable {P:Program}{w:World}{K:Fg}{mg:Str->Option Value}{base:Heap}{A:Around}{outer:List Env}{s:Sh}{H:Hp}
end
end L2
namespace L2
open PySem PySem.Spec PyProof.Rows
section
variable {M:Model}{A:Around}{E:Value->Sh->Prop}{env:Env}{nm q:Str}{C N:Addr}{bs bm:List Value}{hdct:Bool}{sn:List Str}{sub:List Value}{ab:Bool}{col:Option Bool}{dd:Option Addr}{k0 k1 k2 k3 k5:Option Value}{newId:String}
end
end L2
namespace L2
open PySem PySem.Spec PyProof.Rows
open RF (D O ae Tab)
theorem aA {e:Expr}{es:List Expr}{env:Env}(h:RF.aI e=true):starEach (e::es) env=(false,eval e env)::starEach es env:=by cases e<;>first | rfl | (simp[RF.aI] at h)
theorem bJ {env:Env}{pos:Pos}:∀{es:List Expr},es.all RF.aI=true->(backTo pos (starEach es env)).any (·.1)=false
 | [],_=>rfl
 | e::es,h=>by simp only[List.all_cons,Bool.and_eq_true] at h;rw[aA h.1];show (false||(backTo pos (starEach es env)).any (·.1))=false;rw[bJ h.2];rfl
theorem xg {env:Env}{pos:Pos}:∀{es:List Expr},es.all RF.aI=true->(backTo pos (starEach es env)).all (λx=>!x.1)=true
 | [],_=>rfl
 | e::es,h=>by simp only[List.all_cons,Bool.and_eq_true] at h;rw[aA h.1];show (true&&(backTo pos (starEach es env)).all (λx=>!x.1))=true;rw[xg h.2];rfl
theorem gi {o:Expr}{m:Str}{env:Env}{w:Sem Value}(h:RF.i0 o=true):attributeBase o m env w=w:=by
 unfold attributeBase;split
 .simp[RF.i0] at h
 .rfl
theorem ja {env:Env}{pos:Pos}{es:List Expr}(h:es.all RF.aI=true)(hn:es.length<30):
 ((backTo pos (starEach es env)).all (λx=>!x.1)&&(backToKw pos (keywordEach [] env)).all (λx=>x.1.isSome)&&decide (es.length+([]:List Keyword).length+(if ([]:List Keyword).isEmpty then 0 else 1)<30))=true:=by
 rw[xg h];simp[backToKw,keywordEach,hn]
theorem tS {o:Expr}{m:Str}{apos pos:Pos}{args:List Expr}{env:Env}(hb:RF.i0 o=true)(hp:args.all RF.aI=true)(hn:args.length<30)(hl:(apos.endLine==pos.line)=true):
 eval (.Call (.Attribute o m apos) args [] pos) env=(do
  let ov <-eval o env
  standAt apos.atName
  let (f,first) <-holding [ov] (getMethod ov m (do return (<-importBound o env).getD true))
  callWith pos f first (backTo pos (starEach args env)) (backToKw pos (keywordEach [] env))):=by
 have hf:methodCallForm (args.length+([]:List Keyword).length) (backTo pos (starEach args env)) (backToKw pos (keywordEach [] env))=true:=ja hp hn;rw[arm_eval_Call,gi hb];unfold methodCall;rw[hf];simp only[calleeOf,methodCallPos,hl,if_true,Bool.not_true,Bool.false_or,pure_bind]
theorem cK {l:List Str}{x:Str}{i:Nat}(h:RF.b9 l x=some i):l[i]?=some x:=by unfold RF.b9 at h;obtain⟨hi,h1,_⟩:=List.findIdx?_eq_some_iff_getElem.mp h;rw[List.getElem?_eq_getElem hi];exact congrArg some (of_decide_eq_true h1)
def nF (sc uI:Scope):Prop:=∀x:Str,uI.names.lookup x=sc.names.lookup x\/(sc.names.lookup x=some .free/\uI.names.lookup x=some .cell)
theorem nF.refl (sc:Scope):nF sc sc:=λ_=>.inl rfl
theorem nF.JS {sc uI:Scope}(k:nF sc uI){x:Str}(h:tH sc x):tH uI x:=by
 rcases k x with e | ⟨_,e⟩
 .unfold tH;rw[e];exact h
 .exact .inr (.inl e)
theorem nF.glob {sc uI:Scope}(k:nF sc uI){x:Str}(h:sc.names.lookup x=some .globalImplicit):uI.names.lookup x=some .globalImplicit:=by
 rcases k x with e | ⟨e,_⟩
 .rw[e];exact h
 .rw[h] at e;cases e
def nR (K:Fg)(W:bj)(f:List D->ae->RF.R D)(n:Nat):Sp:=λvs H Q E=>vs.length=n/\∃M S ds,Cn K W M S H/\ay M H ds vs/\av K W au E M H (f ds S) Q
def cI:List Str:=["isinstance","int","bool","str","tuple","list","len","all","max","min","range","set"]
def dV:D->V
 | .bl b=>.bl b
 | .int i=>.int i
 | .str x=>.str x
 | _=>.aj
def z5 (kw:List (Str×D))(ks:List Str)(zs:List V):List V:=kw.map λp=>((ks.zip zs).lookup p.1).getD (dV p.2)
def jM (K:Fg)(T:Tab)(c:Nat)(x:Str)(fd:FuncData)(ps:List Str):Prop:=
 (x = "__init__"/\T.dt c≠[]/\(∀p∈T.dt c,RF.cM p.2=true)/\∀ks:List Str,(ks.all λq=>(T.dt c).any λp=>decide (p.1=q))=true->ks.Nodup->∃g,wx K fd ps ks g λvs zs=>vs++z5 (T.dt c) ks zs)\/((x = "__init__"->T.dt c=[])/\Binds K fd ps [])
structure TopK (P:Program)(w:World)(K:Fg)(mg:Str->Option Value)(base:Heap)(W:bj)(cl:RF.Calls)(k:Nat):Prop where
 cons:∀x d,W.T.cons.lookup x=some d->∃u v,mg x=some u/\RelV v u/\∀M H,au M H d v
 fn:∀x i,RF.b9 W.T.eB x=some i->∃f fd ps,dM P w K mg base (kQ P w) k f fd ps (nR K W (cl.f i) ps.length)/\(∀ds S,ds.length≠ps.length->cl.f i ds S = .bad)/\mg x=some (.ref f)/\PySem.W.keepIn K (.ref f)=true/\Binds K fd ps []
 tq:∀x c,RF.b9 W.T.fU x=some c->mg x=some (.ref (W.c c))
 xK:∀c,c<W.T.fU.length->gB K (W.c c)
 plain:∀c f x,c<W.T.fU.length->W.T.plain c f=true->W.T.cQ[f]?=some x->gY K (W.c c) x
 mt:∀c m x,W.T.aS c m=true->W.T.cQ[m]?=some x->∃f fd ps,dM P w K mg base (kQ P w) k f fd ps (nR K W (cl.m c m) ps.length)/\(∀ds S,ds.length≠ps.length->cl.m c m ds S = .bad)/\Meth K (W.c c) x f/\jM K W.T c x fd ps/\(x = "__init__"->Mk K (W.c c) f)/\gB K (W.c c)
 blt:∀x∈cI,mg x=none
 ph:W.ph=dE P w
structure bV (X:Cx)(W:bj)(Γ:RF.Gm)(E:XK)(cl:RF.Calls)(k:Nat):Prop where
 N:X.N=Γ.N
 nd:X.N.Nodup
 jg:nF Γ.sc X.env.scope
 calm:X.calm=true
 room:cT (k+1) X.A
 pass:Passes (kQ X.prog X.w) X E
 top:TopK X.prog X.w X.K X.mg X.base W cl k
section
variable {X:Cx}{W:bj}{Γ:RF.Gm}{E:XK}{cl:RF.Calls}{k:Nat}{a b c e:Expr}{ca cb cc:RF.C D}{pos:Pos}
theorem bV.units (C:bV X W Γ E cl k):X.A.units+RF.depth<cLine:=Nat.lt_of_le_of_lt (Nat.add_le_add_left (by decide:RF.depth<=64) _) C.room.units
theorem bV.B9 (C:bV X W Γ E cl k):X.A.units+1<cLine:=Nv C.room
theorem bV.mU (C:bV X W Γ E cl k):X.A.units+2<cLine:=Nat.lt_of_le_of_lt (Nat.add_le_add_left (by decide:2<=64) _) C.room.units
theorem bV.gl (C:bV X W Γ E cl k){x:Str}(h:RF.fe Γ x=true):Gl X x/\(x==("__debug__":Str))=false:=by unfold RF.fe RF.og at h;simp only[Bool.and_eq_true,Bool.not_eq_true',Bool.or_eq_false_iff] at h;exact⟨C.jg.glob (eq_of_beq h.2),h.1.1⟩
theorem nG {d:D}{v:V}{t:TE}(h:PE X e (tC v))(r:∀M H,au M H d v):PE X e (tE X.K W E (RF.cE d)):=
 h.imp λσ H Q ⟨M,ρ,S,s,g⟩=>av.now g s.con (r M H)
theorem Lm {i:Nat}{x:Str}(hN:X.N[i]?=some x)(hv:tH X.env.scope x)(hd:(x==("__debug__":Str))=false)(hc:(x==("__classdict__":Str))=false):PE X (.Name x pos) (tE X.K W E (RF.aa i)):=by
 refine(MN hN hv hd hc).imp λσ H Q ⟨M,ρ,S,s,g⟩=>?_;unfold RF.aa at g;split at g
 .rename_i d hd;obtain⟨v,h1,h2⟩:=s.env i d hd;exact⟨v,h1,av.now g s.con h2⟩
 .exact g.elim
theorem Jl (C:bV X W Γ E cl k)(x:Str):PE X (.Name x pos) (tE X.K W E (RF.zM W.T Γ x)):=by
 unfold RF.zM;split
 .exact bg
 .rename_i ho;unfold RF.og at ho;simp only[Bool.or_eq_true,not_or,Bool.not_eq_true] at ho;have loc:tH Γ.sc x->PE X (.Name x pos) (tE X.K W E (match RF.b9 Γ.N x with | some i=>RF.aa i | none=>RF.aW)):=λhv=>by
   split
   .rename_i i hi;exact Lm (by rw[C.N];exact cK hi) (C.jg.JS hv) ho.1 ho.2
   .exact bg
  split
  .rename_i h;exact loc (.inl h)
  .rename_i h;exact loc (.inr (.inl h))
  .rename_i h;exact loc (.inr (.inr h))
  .rename_i h;split
   .rename_i d hd;obtain⟨u,v,h1,h2,h3⟩:=C.top.cons x d hd;exact nG (t:=tC v) (Jk (C.jg.glob h) h1 h2 ho.1) h3
   .exact bg
  .exact bg
theorem LZ (ha:PE X a (tE X.K W E ca)):PE X (.UnaryOp .Not a pos) (tE X.K W E (RF.E5 ca)):=by refine(JP ha).imp λσ H Q ⟨M,ρ,S,s,g⟩=>?_;refine bD s g λM1 H1 x u S1 s1 u1 r1 g1=>?_;obtain⟨t,rfl,g1⟩:=oh g1;cases r1;exact⟨t,rfl,av.now g1 s1.con (.bl _)⟩
theorem MM (ha:PE X a (tE X.K W E ca)):PE X (.UnaryOp .USub a pos) (tE X.K W E (RF.Mo ca)):=by
 refine(Ar vt ha).imp λσ H Q ⟨M,ρ,S,s,g⟩=>?_;refine bD s g λM1 H1 x u S1 s1 u1 r1 g1=>?_;cases x with
 | int i=>cases r1;exact⟨i,rfl,av.now g1 s1.con (.int _)⟩
 | _=>exact g1.elim
theorem ME {r:List Expr}(ha:PE X a (tE X.K W E ca))(hb:PE X (.BoolOp .And (b::r) pos) (tE X.K W E cb)):PE X (.BoolOp .And (a::b::r) pos) (tE X.K W E (RF.j4 ca cb)):=by
 refine(KQ ha hb).imp λσ H Q ⟨M,ρ,S,s,g⟩=>?_;refine bD s g λM1 H1 x u S1 s1 u1 r1 g1=>?_;obtain⟨t,rfl,g1⟩:=oh g1;cases r1;refine⟨t,rfl,?_⟩;cases t with
 | true=>exact pU ⟨M1,ρ,S1,s1,g1⟩
 | false=>exact qg (av.now g1 s1.con (.bl _))
theorem N4 {r:List Expr}(ha:PE X a (tE X.K W E ca))(hb:PE X (.BoolOp .Or (b::r) pos) (tE X.K W E cb)):PE X (.BoolOp .Or (a::b::r) pos) (tE X.K W E (RF.G9 ca cb)):=by
 refine(N9 ha hb).imp λσ H Q ⟨M,ρ,S,s,g⟩=>?_;refine bD s g λM1 H1 x u S1 s1 u1 r1 g1=>?_;obtain⟨t,rfl,g1⟩:=oh g1;cases r1;refine⟨t,rfl,?_⟩;cases t with
 | true=>exact pU (av.now g1 s1.con (.bl _))
 | false=>exact qg ⟨M1,ρ,S1,s1,g1⟩
theorem NC {ct:RF.C Bool}(hc:PT X c (tT X.K W E ct))(ha:PE X a (tE X.K W E ca))(hb:PE X b (tE X.K W E cb)):PE X (.IfExp c a b pos) (tE X.K W E (RF.rR ct ca cb)):=by
 refine(Fb hc ha hb).imp λσ H Q ⟨M,ρ,S,s,g⟩=>?_;refine bD s g λM1 H1 x u S1 s1 u1 r1 g1=>?_;subst r1;cases x with
 | true=>exact pU ⟨M1,ρ,S1,s1,g1⟩
 | false=>exact qg ⟨M1,ρ,S1,s1,g1⟩
theorem Hy {ct:RF.C Bool}(ha:PT X a (tT X.K W E ct)):PT X (.UnaryOp .Not a pos) (tT X.K W E (RF.eK ct)):=by refine(Li ha).imp λσ H Q ⟨M,ρ,S,s,g⟩=>?_;refine bD s g λM1 H1 x u S1 s1 u1 r1 g1=>?_;subst r1;exact av.now g1 s1.con rfl
theorem IZ {r:List Expr}{ct cu:RF.C Bool}(ha:PT X a (tT X.K W E ct))(hb:PW X (.BoolOp .And (b::r) pos) (tT X.K W E cu)):PW X (.BoolOp .And (a::b::r) pos) (tT X.K W E (RF.eA ct cu)):=by
 refine(Lh ha hb).imp λσ H Q ⟨M,ρ,S,s,g⟩=>?_;refine bD s g λM1 H1 x u S1 s1 u1 r1 g1=>?_;subst r1;cases x with
 | true=>exact pU ⟨M1,ρ,S1,s1,g1⟩
 | false=>exact qg (av.now g1 s1.con rfl)
theorem L0 {r:List Expr}{ct cu:RF.C Bool}(ha:PT X a (tT X.K W E ct))(hb:PW X (.BoolOp .Or (b::r) pos) (tT X.K W E cu)):PW X (.BoolOp .Or (a::b::r) pos) (tT X.K W E (RF.lh ct cu)):=by
 refine(NI ha hb).imp λσ H Q ⟨M,ρ,S,s,g⟩=>?_;refine bD s g λM1 H1 x u S1 s1 u1 r1 g1=>?_;subst r1;cases x with
 | true=>exact pU (av.now g1 s1.con rfl)
 | false=>exact qg ⟨M1,ρ,S1,s1,g1⟩
theorem Hq {K:Fg}{M:List Addr}{S:ae}{H:Hp}(cn:Cn K W M S H){x:D}{u:V}{t:Bool}(r:au M H x u)(h:RF.kP S x=some t):FH K u H t:=by
 cases r with
 | aj=>cases h;rfl
 | bl b=>cases h;rfl
 | int i=>cases h;rfl
 | str z=>cases h
 | tup ha hx=>cases h;exact .inr (.inl ⟨_,cz.of ha,by rw[hx.gM]⟩)
 | ref hm=>
  rename_i n p;simp only[RF.kP] at h;split at h
  .rename_i xs hS;cases h;obtain⟨vs,h1,h2⟩:=cn.lst hS hm;exact .inl ⟨vs,cB.of h1,by rw[h2.gM]⟩
  .rename_i xs hS;cases h;obtain⟨vs,h1,h2⟩:=cn.at_ n _ p hS hm;exact .inl ⟨vs,h1.sq,by rw[h2.gM]⟩
  .cases h
theorem Hm (ha:PE X a (tE X.K W E ca))(he:∀whole,isTrue a X.env whole=(do let v <-whole;standAt a.pos;holding [v] (truthy v))):PT X a (tT X.K W E (RF.dj ca)):=by
 refine(Fh ha he).imp λσ H Q ⟨M,ρ,S,s,g⟩=>?_;refine bD s g λM1 H1 x u S1 s1 u1 r1 g1=>?_;unfold RF.truthOf at g1;split at g1
 .rename_i t ht;exact⟨t,Hq s1.con r1 ht,av.now g1 s1.con rfl⟩
 .exact g1.elim
theorem fb {f:Expr->RF.C D}:∀{es:List Expr},(∀e∈es,PE X e (tE X.K W E (f e)))->es.all RF.aI=true->PA X es (tA X.K W E (RF.b8 (es.map f)))
 | [],_,_=>gA.imp λσ H Q ⟨M,ρ,S,s,g⟩=>av.now g s.con .nil
 | e::es,h,hp=>by simp only[List.all_cons,Bool.and_eq_true] at hp;refine(dW (h e List.mem_cons_self) (fb (λe' DD=>h e' (List.mem_cons_of_mem _ DD)) hp.2) (aA hp.1)).imp λσ H Q ⟨M,ρ,S,s,g⟩=>?_;refine bD s g λM1 H1 x u S1 s1 u1 r1 g1=>bD s1 g1 λM2 H2 xs us S2 s2 u2 r2 g2=>?_;exact av.now g2 s2.con (.cons (r1.up u2) r2)
theorem pW {cs:List (RF.C D)}{ρ:RF.Env}{S S':ae}{xs:List D}(h:RF.b8 cs ρ S = .ok xs S'):xs.length=cs.length:=by
 induction cs generalizing S S' xs with
 | nil=>cases h;rfl
 | cons c cs ih=>
  unfold RF.b8 at h;cases e:c ρ S with
  | ok x S1=>
   rw[e,RF.R.bY] at h;cases e2:RF.b8 cs ρ S1 with
   | ok ys S2=>rw[e2,RF.R.bY] at h;cases h;simp[ih e2]
   | bad=>rw[e2] at h;cases h
  | bad=>rw[e] at h;cases h
theorem Kh {f:Expr->RF.C D}{es:List Expr}{kk:Nat}(h:∀e∈es,PE X e (tE X.K W E (f e)))(hp:es.all RF.aI=true):PE X (.Tuple es kk pos) (tE X.K W E (RF.ba (es.map f))):=by
 refine(B7 (fb h hp)).imp λσ H Q ⟨M,ρ,S,s,g⟩=>?_;obtain⟨hz,g⟩:=av.guard g;have hz:(es.map f).length<=sizeLine:=of_decide_eq_true hz;refine⟨M,ρ,S,s,?_⟩;cases e:RF.b8 (es.map f) ρ S with
 | ok xs S1=>rw[e,RF.R.bY] at g;intro M1 H1 us c1 u1 r1;refine⟨by rw[<-r1.length,pW e];exact hz,λp hp=>?_⟩;exact av.at_ (g.up u1) (c1.fresh hp) (bO hp) (.tup az (r1.up (bO hp)))
 | bad=>rw[e] at g;exact g
theorem J4 {f:Expr->RF.C D}{es:List Expr}(h:∀e∈es,PE X e (tE X.K W E (f e)))(hp:es.all RF.aI=true):PE X (.List es pos) (tE X.K W E (RF.bT (es.map f))):=by
 refine(JW (fb h hp)).imp λσ H Q ⟨M,ρ,S,s,g⟩=>?_;obtain⟨hz,g⟩:=av.guard g;have hz:(es.map f).length<=sizeLine:=of_decide_eq_true hz;refine⟨M,ρ,S,s,?_⟩;cases e:RF.b8 (es.map f) ρ S with
 | ok xs S1=>rw[e,RF.R.bY] at g;intro M1 H1 us c1 u1 r1;exact⟨by rw[<-r1.length,pW e];exact hz,iG (g.up u1) c1 r1⟩
 | bad=>rw[e] at g;exact g
theorem IY:PE X (.Dict [] [] pos) (tE X.K W E RF.g8):=
 Fi.imp λσ H Q ⟨M,ρ,S,s,g⟩ p hp=>av.at_ g (s.con.new hp rfl (.inr ⟨[],az,.nil⟩)) (iY hp) (nV s.con)
end
end L2
namespace L2
open PySem PySem.Spec PyProof.Rows
open RF (D O ae Tab)
section
variable {K:Fg}{W:bj}{M M1 M2:List Addr}{S S1 S2:ae}{H H1 H2:Hp}{ρ:RF.Env}{σ:St}{E:XK}
theorem ee {α β:Type}{rel:List Addr->Hp->α->β->Prop}{c:RF.C α}{x:α}{Q1:β->Hp->Prop}(s:Sm K W M S H ρ σ)(e:c ρ S = .ok x S1)(k:∀M1 H1 u,Sm K W M1 S1 H1 ρ σ->Up M H M1 H1->rel M1 H1 x u->Q1 u H1):tG K W rel E c σ H Q1:=
 ⟨M,ρ,S,s,by rw[e];exact λM1 H1 u c1 u1 r1=>k M1 H1 u (s.to c1 u1) u1 r1⟩
end
section
variable {X:Cx}{W:bj}{Γ:RF.Gm}{E:XK}{cl:RF.Calls}{k:Nat}{a b c e:Expr}{ca cb cc:RF.C D}{pos:Pos}
theorem Ji {M:List Addr}{H:Hp}{xs:List D}{vs:List V}(r:ay M H xs vs){i:Int}{d:D}(h:RF.jk xs i=some d):∃v,yV vs i=some v/\au M H d v:=by
 unfold RF.jk at h;unfold yV;obtain⟨j,h1,h2⟩:=Option.bind_eq_some_iff.mp h;obtain⟨v,g1,g2⟩:=r.get h2;refine⟨v,?_,g2⟩;have:za vs.length i=some j:=by rw[<-r.length];exact h1
 rw[this];exact g1
theorem Ip {i:Expr}(h:RF.eX i=true):∀ov iv,subscripted i false ov iv=operate [ov,iv] (getItem ov iv):=by intro ov iv;cases i<;>first | rfl | (simp[RF.eX] at h)
def Kk:R2:=λx y H Q=>∃a v,x = .ref a/\iC H a y (some v)/\Q v H
theorem Hr (hu:X.A.units+1<cLine):uC X Kk:=by intro value slice pins s σ H x y v u Q I rx ry h hs;obtain⟨a,w',rfl,g,q⟩:=h;cases rx;exact tail_any (x3 I g) PySem.F.slot_dict_getitem.lookup (Ct hu I g ry λz s3 I3 rz=>⟨w',H,I3,rz,q⟩) hs
def Lx (K:Fg):R2:=λx y H Q=>Kk x y H Q\/MG K x y H Q\/JV K x y H Q
theorem Nx:eN X W E RF.dq (Lx X.K):=by
 intro M S H x y u v Q cn rx ry g;unfold RF.dq at g;split at g
 .split at g
  .rename_i hd d hl;obtain⟨p,H',o,e,hr,c',u',dg,z⟩:=wL cn rx ry hl;rcases z with⟨z,_⟩|⟨d',w,z1,rfl,z3⟩
   .cases z
   .cases z1;rcases hr with rfl | hr
    .exact .inl ⟨p,w,e,dg,av.now g cn z3⟩
    .exfalso;rcases hr with⟨q,rfl⟩|⟨q,rfl⟩
     .rcases dg with⟨af,kk,q1,_,q3⟩|⟨af,kk,bb,q1,_,_,q3⟩
      .rcases q1 with q1 | ⟨_,q1⟩<;>(rw[az] at q1;cases q1)
      .rcases q1 with q1 | ⟨_,q1⟩<;>(rw[az] at q1;cases q1)
       cases q3
     .rcases dg with⟨af,kk,q1,_,q3⟩|⟨af,kk,bb,q1,_,_,q3⟩
      .rcases q1 with q1 | ⟨_,q1⟩<;>(rw[az] at q1;cases q1)
       cases q3
      .rcases q1 with q1 | ⟨_,q1⟩<;>(rw[az] at q1;cases q1)
  .exact g.elim
 .split at g
  .rename_i xs i hi;split at g
   .rename_i d hd;cases ry;obtain⟨p,vs,rfl,hs,hv⟩:=l4 cn hi rx;obtain⟨w,e1,e2⟩:=Ji hv hd;rcases hs with hs | hs
    .exact .inr (.inl ⟨p,vs,i,w,rfl,rfl,hs,e1,av.now g cn e2⟩)
    .exact .inr (.inr ⟨p,vs,i,w,rfl,rfl,hs,e1,av.now g cn e2⟩)
   .exact g.elim
  .exact g.elim
theorem NL (C:bV X W Γ E cl k)(ha:PE X a (tE X.K W E ca))(hb:PE X b (tE X.K W E cb))(hs:RF.eX b=true):PE X (.Subscript a b pos) (tE X.K W E (RF.bh ca cb)):=
 (Nh (r:=Lx X.K) ((Hr C.B9).or (IW.or J9)) ha hb (Ip hs)).imp λ_ _ _ h=>Gh Nx h
theorem yM {M:List Addr}{H:Hp}{xs:List D}{vs:List V}(r:ay M H xs vs)(lo hi:Option Int):ay M H (RF.cutD xs lo hi) (mi vs lo hi):=by unfold RF.cutD mi;rw[<-r.length];exact(r.drop _).take _
theorem yU {f:Expr->RF.C D}{o:Option Expr}(h:∀e∈o,PE X e (tE X.K W E (f e))):PO X o (tG X.K W (λ_ _ x y=>x=y) E (RF.sG (o.map f))):=by
 cases o with
 | none=>intro pins s σ H Q I ⟨M,ρ,S,sm,g⟩;exact HD pins s σ H Q I (av.now g sm.con rfl)
 | some e=>
  intro pins s σ H Q I ⟨M,ρ,S,sm,g⟩;refine HC (h e rfl) pins s σ H Q I ?_;refine bD sm g λM1 H1 x u S1 s1 u1 r1 g1=>?_;cases x with
  | int i=>cases r1;exact⟨i,rfl,av.now g1 s1.con rfl⟩
  | _=>exact g1.elim
theorem D3 {f:Expr->RF.C D}{lo hi:Option Expr}{p2:Pos}(ha:PE X a (tE X.K W E ca))(hl:∀e∈lo,PE X e (tE X.K W E (f e)))(hh:∀e∈hi,PE X e (tE X.K W E (f e))):
 PE X (.Subscript a (.Slice lo hi none p2) pos) (tE X.K W E (RF.fN ca (lo.map f) (hi.map f))):=by
 refine(D8 (HL.or Ja) ha (yU hl) (yU hh)).imp λσ H Q ⟨M,ρ,S,s,g⟩=>?_;refine bD s g λM1 H1 x u S1 s1 u1 r1 g1=>bD s1 g1 λM2 H2 l l' S2 s2 u2 r2 g2=>bD s2 g2 λM3 H3 h h' S3 s3 u3 r3 g3=>?_;subst r2 r3;have rx:=(r1.up u2).up u3;unfold RF.rJ at g3;split at g3
 .obtain⟨p,vs,rfl,hp,hv⟩:=cD rx;refine .inl ⟨p,vs,rfl,cz.of hp,λz=>?_,λ_ q hq=>?_⟩
  .rename_i zr;rw[<-hv.length] at z;have z1:=z.1;have z2:=z.2
   change RF.aX _ 0 _=0 at z1
   change RF.aX _ _ _=_ at z2
   have e:RF.cutD zr l h=zr:=by unfold RF.cutD;rw[z1,z2];simp
   rw[e] at g3;exact av.now g3 s3.con (.tup hp hv)
  .exact av.at_ g3 (s3.con.fresh hq) (bO hq) (.tup az ((yM hv l h).up (bO hq)))
 .rename_i n;split at g3
  .rename_i xs hi;obtain⟨p,rfl,e⟩:=bw rx;obtain⟨vs,h1,h2⟩:=s3.con.items hi e;exact .inr ⟨p,vs,rfl,h1,iG g3 s3.con (yM h2 l h)⟩
  .exact g3.elim
 .exact g3.elim
theorem vZ {K:Fg}{M:List Addr}{H:Hp}{W:bj}{cc:Nat}(nd:W.T.cQ.Nodup){fs:List (Nat×D)}{gs:List (Str×V)}(h:Paired (λ(p:Nat×D) (q:Str×V)=>(W.T.cQ[p.1]?=some q.1/\W.T.plain cc p.1=true)/\au M H p.2 q.2) fs gs){f:Nat}{x:Str}(hx:W.T.cQ[f]?=some x):
 (fs.lookup f=none/\gs.lookup x=none)\/∃d v,fs.lookup f=some d/\gs.lookup x=some v/\au M H d v/\W.T.plain cc f=true:=by
 induction h with
 | nil=>exact .inl ⟨rfl,rfl⟩
 | @cons p q fs gs r t ih=>
  obtain⟨pf,pd⟩:=p;obtain⟨qf,qv⟩:=q;obtain⟨⟨r1,r2⟩,r3⟩:=r
  by_cases e:f=pf
  .subst e;have e2:x=qf:=Option.some.inj (hx.symm.trans r1);subst e2;exact .inr ⟨pd,qv,by simp[List.lookup],by simp[List.lookup],r3,r2⟩
  .have e2:¬x=qf:=λz=>e (by subst z;exact(List.getElem?_inj (List.getElem?_eq_some_iff.mp hx).1 nd).mp (hx.trans r1.symm));have b1:(f==pf)=false:=by simpa using e
   have b2:(x==qf)=false:=by simpa using e2
   simp only[List.lookup,b1,b2];exact ih
theorem MC (C:bV X W Γ E cl k){f:Str}{i:Nat}(ha:PE X a (tE X.K W E ca))(hi:RF.b9 W.T.cQ f=some i)(hb:RF.i0 a=true):PE X (.Attribute a f pos) (tE X.K W E (RF.aE ca i)):=by
 refine(LS ha (gi hb)).imp λσ H Q ⟨M,ρ,S,s,g⟩=>?_;refine bD s g λM1 H1 x u S1 s1 u1 r1 g1=>?_;unfold RF.nH at g1;split at g1
 .rename_i n;split at g1
  .rename_i cc fs hS;split at g1
   .rename_i d hd;obtain⟨p,rfl,e⟩:=bw r1;obtain⟨dx,gs,h1,hc,h2⟩:=s1.con.at_ n _ p hS e;rcases vZ (K:=X.K) s1.con.sk h2 (cK hi) with⟨z,_⟩|⟨d',v,z1,z2,z3,z4⟩
    .rw[z] at hd;cases hd
    .rw[z1] at hd;cases hd;exact⟨p,W.c cc,dx,gs,v,rfl,h1,C.top.xK cc hc,C.top.plain cc i f hc z4 (cK hi),z2,av.now g1 s1.con z3⟩
   .exact g1.elim
  .exact g1.elim
 .exact g1.elim
def D2:RF.Kd->String
 | .int=>"int" | .bool=>"bool" | .str=>"str" | .tuple=>"tuple" | .list=>"list"
def LX:RF.Kd->Kn->Bool
 | .int=>isInt | .bool=>JO | .str=>isStr | .tuple=>isTup | .list=>Gb
theorem KN (K:Fg)(d:RF.Kd)(n:Kn):PySem.W.kitOne K (.type n.ty) (.type (D2 d))=some (LX d n):=by
 cases d with
 | int=>exact Jf K n
 | bool=>exact E3 K n
 | str=>exact Hv K n
 | tuple=>exact kit_tuple K n
 | list=>exact Ff K n
theorem L5 {K:Fg}{M:List Addr}{S:ae}{H:Hp}(cn:Cn K W M S H){d:RF.Kd}{x:D}{u:V}{t:Bool}(r:au M H x u)(h:RF.nk S d x=some t):∃n,kA K H u n/\t=LX d n:=by
 cases r with
 | aj=>cases h;exact⟨.aj,Ls,by cases d<;>rfl⟩
 | bl b=>cases h;exact⟨.bl,NK b,by cases d<;>rfl⟩
 | int i=>cases h;exact⟨.int,JN i,by cases d<;>rfl⟩
 | str z=>cases h;exact⟨.str,Mx z,by cases d<;>rfl⟩
 | tup ha hx=>cases h;exact⟨.tup,L6 ha,by cases d<;>rfl⟩
 | ref hm=>
  simp only[RF.nk] at h;split at h
  .rename_i xs hS;cases h;obtain⟨vs,h1,h2⟩:=cn.lst hS hm;exact⟨.lst,K2 h1,by cases d<;>rfl⟩
  .cases h
theorem Nf {t:Str}{d:RF.Kd}(h:RF.kdOf t=some d):t∈cI/\bootBuiltins t=some (.type (D2 d))/\t ≠ "__name__":=by
 unfold RF.kdOf at h;split at h
 .rename_i e;cases h;subst e;exact⟨by simp[cI],boot_int,by decide +kernel⟩
 .split at h
  .rename_i e;cases h;subst e;exact⟨by simp[cI],boot_bool,by decide +kernel⟩
  .split at h
   .rename_i e;cases h;subst e;exact⟨by simp[cI],boot_str,by decide +kernel⟩
   .split at h
    .rename_i e;cases h;subst e;exact⟨by simp[cI],boot_tuple,by decide +kernel⟩
    .split at h
     .rename_i e;cases h;subst e;exact⟨by simp[cI],boot_list,by decide +kernel⟩
     .cases h
theorem Mj (C:bV X W Γ E cl k){t:Str}{d:RF.Kd}{pt pf:Pos}(hg:RF.fe Γ "isinstance" = true)(zt:RF.fe Γ t=true)(hd:RF.kdOf t=some d)(ha:PE X a (tE X.K W E ca))(hp:RF.aI a=true):
 PE X (.Call (.Name "isinstance" pf) [a,.Name t pt] [] pos) (tE X.K W E (RF.nO d ca)):=by
 obtain⟨k1,k2,k3⟩:=Nf hd;obtain⟨g1,g2⟩:=C.gl zt;refine(iD (Bw (KN X.K d)) (C.gl hg).1 (C.top.blt _ (by simp[cI])) boot_isinstance (dW ha (dW (IF (v:=.ty (D2 d)) g1 (C.top.blt t k1) k2 rfl k3 g2) gA (aA rfl)) (aA hp)) (by decide +kernel) (C.gl hg).2 (aA hp) (bJ rfl)).imp λσ H Q ⟨M,ρ,S,s,g⟩=>?_;refine bD s g λM1 H1 x u S1 s1 u1 r1 g1=>?_;obtain⟨t',ht,q⟩:=sZ g1 s1.con;obtain⟨n,h1,h2⟩:=L5 s1.con r1 ht;subst h2;exact⟨u,n,rfl,h1,q⟩
end
end L2
namespace L2
open PySem PySem.Spec PyProof.Rows
open RF (D O ae Tab)
section
variable {X:Cx}{W:bj}{Γ:RF.Gm}{E:XK}{cl:RF.Calls}{k:Nat}{a b c e:Expr}{ca cb cc:RF.C D}{pos:Pos}
def yp (X:Cx)(W:bj)(E:XK)(f:List D->ae->RF.R D)(r:List V->Hp->VK->Prop):Prop:=∀(M:List Addr) (S:ae) (H:Hp) (xs:List D) (us:List V) (Q:VK),Cn X.K W M S H->ay M H xs us->av X.K W au E M H (f xs S) Q->r us H Q
theorem ot {f:List D->ae->RF.R D}{r:List V->Hp->VK->Prop}(h:yp X W E f r){cs:List (RF.C D)}{σ:St}{H:Hp}{Q:VK}(hq:tE X.K W E (RF.ao f cs) σ H Q):Mn r (tA X.K W E (RF.b8 cs)) σ H Q:=by obtain⟨M,ρ,S,s,g⟩:=hq;exact bD s g λM1 H1 xs us S1 s1 u1 r1 g1=>h M1 S1 H1 xs us Q s1.con r1 g1
theorem oJ {M:List Addr}{H:Hp}{x:D}{us:List V}(r:ay M H [x] us):∃u,us=[u]/\au M H x u:=by cases r with | cons h hs=>cases hs;exact⟨_,rfl,h⟩
theorem ve {M:List Addr}{H:Hp}{x y:D}{us:List V}(r:ay M H [x,y] us):∃u v,us=[u,v]/\au M H x u/\au M H y v:=by cases r with | cons h hs=>cases hs with | cons h2 hs=>cases hs;exact⟨_,_,rfl,h,h2⟩
theorem Ce {M:List Addr}{H:Hp}{xs:List D}{vs:List V}{bs:List Bool}(r:ay M H xs vs)(h:RF.bools xs=some bs):vs=bs.map V.bl:=by
 induction xs generalizing vs bs with
 | nil=>cases h;cases r;rfl
 | cons x xs ih=>
  cases r with
  | cons h1 h2=>
   cases x with
   | bl t=>simp only[RF.bools] at h;obtain⟨bs',e1,e2⟩:=Option.map_eq_some_iff.mp h;subst e2;cases h1;rw[ih h2 e1];rfl
   | _=>cases h
def Gs (K:Fg):List V->Hp->VK->Prop:=λxs H Q=>(∃x n,xs=[x]/\Lp K x H n/\Q (.int n) H)\/(∃a af,xs=[V.ref a]/\Rd H a (.dT af)/\Q (.int (af.length:Nat)) H)\/∃a af,xs=[V.ref a]/\Rd H a (.dK af)/\Q (.int (af.length:Nat)) H
theorem Cj:dz X (.builtin "len") (λxs H Q=>∃a af,xs=[V.ref a]/\Rd H a (.dK af)/\Q (.int (af.length:Nat)) H):=by intro pins s σ H xs us Q I r h;obtain⟨a,af,rfl,ha,q⟩:=h;obtain⟨u,rfl,ru⟩:=vals1 r;cases ru;exact NT I ha λt s' I'=>⟨.int af.length,H,I',⟨t,rfl⟩,q⟩
theorem Bs:dz X (.builtin "len") (Gs X.K):=Ef.or (BO.or Cj)
theorem J8:yp X W E (RF.cx .len) (Gs X.K):=by
 intro M S H xs us Q cn r g
 match xs,r,g with
 | [x],r,g=>
  simp only[RF.cx] at g;split at g
  .rename_i n hn;obtain⟨u,rfl,ru⟩:=oJ r;have q:=av.now g cn (.int _);unfold RF.ny at hn;split at hn
   .split at hn
    .cases hn;cases ru;exact .inl ⟨_,_,rfl,⟨by assumption,rfl⟩,q⟩
    .cases hn
   .split at hn
    .rename_i af hk;cases hn;obtain⟨m,p,rfl,rfl,_,h⟩:=cn.af hk ru;rcases h with⟨ks,h1,h2⟩|⟨ts,h1,h2⟩
     .exact .inr (.inr ⟨p,ks,rfl,h1,by rw[<-Paired.length h2];exact q⟩)
     .exact .inr (.inl ⟨p,ts,rfl,h1,by rw[<-Paired.length h2];exact q⟩)
    .obtain⟨ys,hy,e⟩:=Option.map_eq_some_iff.mp hn;subst e;obtain⟨p,vs,rfl,hs,hv⟩:=l4 cn hy ru;refine .inl ⟨_,_,rfl,?_,q⟩;rcases hs with hs | hs
     .exact .inl ⟨vs,hs,hv.length⟩
     .exact .inr ⟨vs,hs,hv.length⟩
  .exact g.elim
 | [],r,g=>exact g.elim
 | _::_::_,r,g=>exact g.elim
theorem Kc:yp X W E (RF.cx .max2) (λxs H Q=>∃i j,xs=[.int i,.int j]/\Q (.int (if j > i then j else i)) H):=by
 intro M S H xs us Q cn r g
 match xs,r,g with
 | [x,y],r,g=>
  obtain⟨u,v,rfl,ru,rv⟩:=ve r;cases x with
  | int i=>
   cases y with
   | int j=>cases ru;cases rv;exact⟨_,_,rfl,av.now g cn (.int _)⟩
   | _=>exact g.elim
  | _=>exact g.elim
 | [],r,g=>exact g.elim
 | [x],r,g=>cases x<;>exact g.elim
 | x::y::_::_,r,g=>cases x<;>first | exact g.elim | (cases y<;>exact g.elim)
theorem Lq:yp X W E (RF.cx .min2) (λxs H Q=>∃i j,xs=[.int i,.int j]/\Q (.int (if j<i then j else i)) H):=by
 intro M S H xs us Q cn r g
 match xs,r,g with
 | [x,y],r,g=>
  obtain⟨u,v,rfl,ru,rv⟩:=ve r;cases x with
  | int i=>
   cases y with
   | int j=>cases ru;cases rv;exact⟨_,_,rfl,av.now g cn (.int _)⟩
   | _=>exact g.elim
  | _=>exact g.elim
 | [],r,g=>exact g.elim
 | [x],r,g=>cases x<;>exact g.elim
 | x::y::_::_,r,g=>cases x<;>first | exact g.elim | (cases y<;>exact g.elim)
theorem DL:yp X W E (RF.cx .tuple) (λxs H Q=>∃p ys,xs=[.ref p]/\((cB X.K H p ys/\∀l,H l=none->Q (.ref l) (upd H l (.tup ys)))\/(cz X.K H p ys/\Q (.ref p) H))):=by
 intro M S H xs us Q cn r g
 match xs,r,g with
 | [x],r,g=>
  obtain⟨u,rfl,ru⟩:=oJ r;simp only[RF.cx] at g;split at g
  .rename_i ys hy;cases x with
   | tup zs=>cases hy;obtain⟨p,vs,rfl,hp,hv⟩:=cD ru;exact⟨p,vs,rfl,.inr ⟨cz.of hp,av.now g cn (.tup hp hv)⟩⟩
   | ref n=>obtain⟨p,rfl,e⟩:=bw ru;obtain⟨vs,h1,h2⟩:=cn.items hy e;exact⟨p,vs,rfl,.inl ⟨h1,λl hl=>av.at_ g (cn.fresh hl) (bO hl) (.tup az (h2.up (bO hl)))⟩⟩
   | _=>cases hy
  .exact g.elim
 | [],r,g=>exact g.elim
 | _::_::_,r,g=>exact g.elim
def LW (K:Fg):List V->Hp->VK->Prop:=λxs H Q=>(∃p ys,xs=[.ref p]/\(cB K H p ys\/cz K H p ys)/\∀l,H l=none->Q (.ref l) (upd H l (.lst ys))) \/
 ∃a af,xs=[V.ref a]/\Rd H a (.dT af)/\∀l ys,H l=none->ys.length=af.length->(∀(i:Nat) p,af[i]?=some p->∃b,ys[i]?=some (V.ref b)/\H b=some (.tup (p.1.map kV)))->Q (.ref l) (upd H l (.lst ys))
theorem C9 (M:List Addr)(H:Hp)(ks:List Key):ay M H (ks.map dO) (ks.map kV):=by
 induction ks with
 | nil=>exact .nil
 | cons k ks ih=>exact .cons (Ck M H k) ih
theorem EC {M:List Addr}{H:Hp}{af:List (D×D)}{ts:List (List Key×V)}(h:Paired (cm ofKeys M H) af ts){ys:List V}(hl:ys.length=ts.length)(hy:∀(i:Nat) p,ts[i]?=some p->∃b,ys[i]?=some (V.ref b)/\H b=some (.tup (p.1.map kV))):ay M H (af.map (·.1)) ys:=by
 induction h generalizing ys with
 | nil=>cases ys with | nil=>exact .nil | cons=>simp at hl
 | @cons p q af ts r t ih=>
  cases ys with
  | nil=>simp at hl
  | cons y ys=>
   obtain⟨b,e1,e2⟩:=hy 0 q rfl;have e1:y = .ref b:=by simpa using e1
   subst e1;refine .cons ?_ (ih (by simpa using hl) λi p' hp=>?_)
   .show au M H p.1 _;rw[r.1];exact .tup e2 (C9 M H q.1)
   .obtain⟨b',g1,g2⟩:=hy (i+1) p' (by simpa using hp);exact⟨b',by simpa using g1,g2⟩
theorem Jh:yp X W E (RF.cx .list) (LW X.K):=by
 intro M S H xs us Q cn r g
 match xs,r,g with
 | [x],r,g=>
  obtain⟨u,rfl,ru⟩:=oJ r;simp only[RF.cx] at g;split at g
  .rename_i af hk;obtain⟨hf,g⟩:=av.guard g;rw[Bool.and_eq_true] at hf;obtain⟨n,p,rfl,rfl,e,h⟩:=cn.af hk ru;rcases h with⟨ks,h1,h2⟩|⟨ts,h1,h2⟩
   .have:=all_nil (gN h2) hf.1 (λk=>gz);subst this;cases hf.2
   .exact .inr ⟨p,ts,rfl,h1,λl ys hl h3 h4=>iG g cn (EC h2 h3 h4) l hl⟩
  .split at g
   .rename_i ys hy;obtain⟨p,vs,rfl,hs,hv⟩:=l4 cn hy ru;exact .inl ⟨p,vs,rfl,hs,iG g cn hv⟩
   .exact g.elim
 | [],r,g=>exact g.elim
 | _::_::_,r,g=>exact g.elim
theorem ug {M:List Addr}{H:Hp}:∀{xs:List D} {vs:List V} {is:List Int},ay M H xs vs->RF.iR xs=some is->vs=is.map V.int
 | [],_,_,.nil,h=>by cases h;rfl
 | .int i::r,_,is,.cons h hs,e=>by have e:(RF.iR r).map (i :: ·)=some is:=e;obtain⟨js,e1,rfl⟩:=Option.map_eq_some_iff.mp e;cases h;rw[ug hs e1];rfl
 | .aj::_,_,_,_,e | .bl _::_,_,_,_,e | .str _::_,_,_,_,e | .tup _::_,_,_,_,e | .ref _::_,_,_,_,e=>by cases e
theorem rM (C:bV X W Γ E cl k){x:Str}{bb:RF.B}{f:Expr->RF.C D}{es:List Expr}{pf:Pos}(hb:RF.vo x es.length=some bb)(hg:RF.fe Γ x=true)(h:∀e∈es,PE X e (tE X.K W E (f e)))(hp:es.all RF.aI=true):
 PE X (.Call (.Name x pf) es [] pos) (tE X.K W E (RF.ao (RF.cx bb) (es.map f))):=by
 obtain⟨g1,g2⟩:=C.gl hg;have args:=fb h hp;cases es with
 | nil=>unfold RF.vo at hb;simp at hb
 | cons e es=>
  have mM:=hp;simp only[List.all_cons,Bool.and_eq_true] at hp;have st:starEach (e::es) X.env=(false,eval e X.env)::starEach es X.env:=aA hp.1;have pl:=bJ (env:=X.env) (pos:=pos) hp.2;unfold RF.vo at hb
  .split at hb
   .rename_i z;cases hb;obtain⟨rfl,_⟩:=z;exact(iD (Cm C.calm) g1 (C.top.blt _ (by simp[cI])) boot_max args (by decide +kernel) g2 st pl).imp λ_ _ _ q=>ot Kc q
   .split at hb
    .rename_i z;cases hb;obtain⟨rfl,_⟩:=z;exact(iD (Ds C.calm) g1 (C.top.blt _ (by simp[cI])) boot_min args (by decide +kernel) g2 st pl).imp λ_ _ _ q=>ot Lq q
    .split at hb
     .rename_i z;cases hb;obtain⟨rfl,_⟩:=z;exact(kq mx g1 (C.top.blt _ (by simp[cI])) boot_tuple args (by decide +kernel) g2 st pl).imp λ_ _ _ q=>ot DL q
     .split at hb
      .rename_i z;cases hb;obtain⟨rfl,_⟩:=z;exact(kq (wz.or (Ax C.calm)) g1 (C.top.blt _ (by simp[cI])) boot_list args (by decide +kernel) g2 st pl).imp λ_ _ _ q=>ot Jh q
      .cases hb
theorem k9 {K:Fg}{f:List D->ae->RF.R D}{n:Nat}{M:List Addr}{S:ae}{H:Hp}{xs:List D}{us:List V}{Q:VK}(cn:Cn K W M S H)(r:ay M H xs us)(hl:∀ds S,ds.length≠n->f ds S = .bad)(g:av K W au E M H (f xs S) Q):nR K W f n us H Q E:=by refine⟨?_,M,S,xs,cn,r,g⟩;rw[<-r.length];exact Classical.byContradiction λz=>by rw[hl xs S z] at g;exact g
theorem JF (C:bV X W Γ E cl k){x:Str}{i:Nat}{f:Expr->RF.C D}{es:List Expr}{pf:Pos}(hi:RF.b9 W.T.eB x=some i)(hg:RF.fe Γ x=true)(h:∀e∈es,PE X e (tE X.K W E (f e)))(hp:es.all RF.aI=true):
 PE X (.Call (.Name x pf) es [] pos) (tE X.K W E (RF.ao (cl.f i) (es.map f))):=by
 obtain⟨g1,g2⟩:=C.gl hg;have args:=fb h hp;obtain⟨fa,fd,ps,F,hl,hm,hk,bd⟩:=C.top.fn x i hi;cases es with
 | nil=>refine(FD F (C.room.mono (Nat.le_succ k)) g1 hm hk bd .nil C.pass g2).imp λσ H Q ⟨M,ρ,S,s,g⟩=>?_;exact k9 (xs:=[]) s.con .nil hl g
 | cons e es=>simp only[List.all_cons,Bool.and_eq_true] at hp;refine(Jy F (C.room.mono (Nat.le_succ k)) g1 hm hk bd .nil C.pass args g2 (aA hp.1) (bJ hp.2)).imp λσ H Q ⟨M,ρ,S,s,g⟩=>?_;refine bD s g λM1 H1 xs us S1 s1 u1 r1 g1=>?_;rw[List.append_nil];exact k9 s1.con r1 hl g1
theorem LF {d:D}(h:RF.cM d=true)(M:List Addr)(H:Hp):au M H d (dV d):=by
 cases d with
 | aj=>exact .aj
 | bl b=>exact .bl b
 | int i=>exact .int i
 | str x=>exact .str x
 | _=>cases h
theorem zc {M:List Addr}{H:Hp}(x:Str):∀{ks:List Str} {zs:List D} {vs:List V},ay M H zs vs->((ks.zip zs).lookup x=none/\(ks.zip vs).lookup x=none)\/∃d v,(ks.zip zs).lookup x=some d/\(ks.zip vs).lookup x=some v/\au M H d v
 | [],_,_,_=>.inl ⟨by simp,by simp⟩
 | _::_,[],_,.nil=>.inl ⟨by simp,by simp⟩
 | k::ks,z::zs,v::vs,.cons h hs=>by
  simp only[List.zip_cons_cons,List.lookup_cons];cases e:(x==k) with
  | true=>exact .inr ⟨z,v,rfl,rfl,h⟩
  | false=>exact zc x hs
theorem xm {M:List Addr}{H:Hp}{ks:List Str}{zs:List D}{vs:List V}(r:ay M H zs vs):∀{kw:List (Str×D)},(∀p∈kw,RF.cM p.2=true)->ay M H (RF.n8 kw ks zs) (z5 kw ks vs)
 | [],_=>.nil
 | p::kw,h=>by
  refine .cons ?_ (xm r λq hq=>h q (List.mem_cons_of_mem _ hq));show au M H (((ks.zip zs).lookup p.1).getD p.2) (((ks.zip vs).lookup p.1).getD (dV p.2));rcases zc p.1 (ks:=ks) r with⟨e1,e2⟩|⟨d,v,e1,e2,e3⟩
  .rw[e1,e2];exact LF (h p List.mem_cons_self) M H
  .rw[e1,e2];exact e3
theorem zi (C:bV X W Γ E cl k){ps:List Str}{i c:Nat}{M1:List Addr}{S1:ae}{H1:Hp}{Q:VK}{xs:List D}{us:List V}{p dx:Addr}(mL:c<W.T.fU.length)(hl:∀ds S,ds.length≠ps.length->cl.m c i ds S = .bad)(c1:Cn X.K W M1 S1 H1)(r1:ay M1 H1 xs us)(hp:H1 p=none)(zu:H1 dx=none)(cN:dx≠p)
 (g1:av X.K W au E M1 H1 ((cl.m c i (.ref S1.length::xs) (S1++[.obj c []])).bind λr S3=>match r with | .aj=>.ok (.ref S1.length) S3 | _=>.bad) Q):
 nR X.K W (cl.m c i) ps.length (.ref p::us) (upd (upd H1 dx (.own p)) p (.ins (W.c c) dx [])) (λv H2=>v = .aj/\Q (.ref p) H2) E:=by
 have uG:upd H1 dx (.own p) p=none:=by rw[ax (Ne.symm cN)];exact hp
 have c2:Cn X.K W M1 S1 (upd H1 dx (.own p)):=c1.fresh zu;have c3:Cn X.K W (M1++[p]) (S1++[.obj c []]) (upd (upd H1 dx (.own p)) p (.ins (W.c c) dx [])):=c2.new uG rfl ⟨dx,[],az,mL,.nil⟩;have u3:Up M1 H1 (M1++[p]) (upd (upd H1 dx (.own p)) p (.ins (W.c c) dx [])):=(bO (M:=M1) zu).trans (iY uG);refine k9 (xs:=.ref S1.length::xs) c3 (.cons (nV c1) (r1.up u3)) hl ?_;refine vq (g1.up u3) λM4 H4 d v S4 c4 u4 r4 g4=>?_;cases d with
 | aj=>cases r4;exact⟨rfl,av.now g4 c4 ((nV (H':=H4) c1).d7 ⟨u4.pre,λb xs h=>h⟩)⟩
 | _=>exact g4.elim
theorem Jv {kws:List Keyword}{env:Env}{pos:Pos}:(kws.all λq=>q.arg.isSome)=true->(backToKw pos (keywordEach kws env)).all (·.1.isSome)=true/\(backToKw pos (keywordEach kws env)).filterMap (·.1)=kws.filterMap (·.arg)/\(backToKw pos (keywordEach kws env)).any (·.1.isNone)=false:=by
 induction kws with
 | nil=>intro _;exact⟨rfl,rfl,rfl⟩
 | cons q r ih=>
  intro h;simp only[List.all_cons,Bool.and_eq_true] at h;obtain⟨a,b,c⟩:=ih h.2;obtain⟨nm,v,p⟩:=q;cases nm with
  | none=>cases h.1
  | some n=>
   have e:backToKw pos (keywordEach (⟨some n,v,p⟩::r) env)=(some n,do let x <-eval v env;standAt pos;pure x)::backToKw pos (keywordEach r env):=rfl;rw[e];refine⟨?_,?_,?_⟩
   .rw[List.all_cons,a];rfl
   .rw[List.filterMap_cons,b];rfl
   .rw[List.any_cons,c];rfl
theorem Bt {f:Expr->RF.C D}:∀{kws:List Keyword},(∀e,PE X e (tE X.K W E (f e)))->PK X kws (tA X.K W E (RF.b8 (kws.map λq=>f q.value)))
 | [],_=>λpos pins s σ H Q I ⟨M,ρ,S,sm,g⟩=>Ky pos pins s σ H Q I (av.now g sm.con .nil)
 | ⟨nm,e,kp⟩::kws,h=>λpos pins s σ H Q I ⟨M,ρ,S,sm,g⟩=>HH (h e) (Bt h) pos pins s σ H Q I (bD sm g λM1 H1 x u S1 s1 u1 r1 g1=>bD s1 g1 λM2 H2 xs us S2 s2 u2 r2 g2=>av.now g2 s2.con (.cons (r1.up u2) r2))
theorem jM.plain {K:Fg}{T:Tab}{c:Nat}{x:Str}{fd:FuncData}{ps:List Str}(h:jM K T c x fd ps)(n:x ≠ "__init__"):Binds K fd ps []:=h.elim (λz=>absurd z.1 n) λz=>z.2
theorem vR (C:bV X W Γ E cl k){x:Str}{i c:Nat}{f:Expr->RF.C D}{e:Expr}{es:List Expr}{kws:List Keyword}{pf:Pos}(hc:RF.b9 W.T.fU x=some c)(hi:RF.b9 W.T.cQ "__init__" = some i)(hM:W.T.aS c i=true)(hk:W.T.dt c≠[])(hg:RF.fe Γ x=true)(h:∀e,PE X e (tE X.K W E (f e)))(hp:(e::es).all RF.aI=true)
 (h1:(kws.all λq=>q.arg.isSome)=true) (h2:((kws.filterMap (·.arg)).all λq=>(W.T.dt c).any λp=>decide (p.1=q))=true) (h3:(kws.filterMap (·.arg)).Nodup):
 PE X (.Call (.Name x pf) (e::es) kws pos) (tE X.K W E (RF.ie (cl.m c i) c ((e::es).map f) (W.T.dt c) (kws.filterMap (·.arg)) (kws.map λq=>f q.value))):=by
 obtain⟨g1,g2⟩:=C.gl hg;have args:=fb (λe _=>h e) hp;obtain⟨fa,fd,ps,F,hl,hm,bd,mk,_⟩:=C.top.mt c i "__init__" hM (cK hi);have mL:c<W.T.fU.length:=(List.getElem?_eq_some_iff.mp (cK hc)).1;rcases bd with⟨_,_,hf,hb⟩|⟨z,_⟩
 .obtain⟨g,kb⟩:=hb _ h2 h3;simp only[List.all_cons,Bool.and_eq_true] at hp;obtain⟨k1,k2,k3⟩:=Jv (env:=X.env) (pos:=pos) h1;refine(EO (mk rfl) F C.room g1 (C.top.tq x c hc) kb C.pass args (Bt h) k1 k2 g2 (aA hp.1) ?_).imp λσ H Q ⟨M,ρ,S,s,g⟩=>?_
  .rw[k3,Bool.or_false,aA hp.1];show (false||(backTo pos (starEach es X.env)).any (·.1))=false;rw[bJ hp.2];rfl
  .refine bD s g λM1 H1 xs us S1 s1 u1 r1 g1=>bD s1 g1 λM2 H2 zs vs S2 s2 u2 r2 g2=>?_;intro p dx hp zu cN;show nR _ _ _ _ (.ref p::(us++z5 (W.T.dt c) (kws.filterMap (·.arg)) vs)) _ _ _;exact zi C mL hl s2.con ((r1.up u2).append (xm r2 hf)) hp zu cN g2
 .exact absurd (z rfl) hk
theorem HQ (C:bV X W Γ E cl k){x:Str}{i c:Nat}{f:Expr->RF.C D}{es:List Expr}{pf:Pos}(hc:RF.b9 W.T.fU x=some c)(hi:RF.b9 W.T.cQ "__init__" = some i)(hM:W.T.aS c i=true)(hk0:W.T.dt c=[]\/es.isEmpty=false)(hg:RF.fe Γ x=true)(hA:∀e,PE X e (tE X.K W E (f e)))(hp:es.all RF.aI=true):
 PE X (.Call (.Name x pf) es [] pos) (tE X.K W E (RF.ie (cl.m c i) c (es.map f) (W.T.dt c) [] [])):=by
 by_cases hk:W.T.dt c=[]
 .obtain⟨g1,g2⟩:=C.gl hg;have args:=fb (λe _=>hA e) hp;obtain⟨fa,fd,ps,F,hl,hm,bd,mk,_⟩:=C.top.mt c i "__init__" hM (cK hi);have mL:c<W.T.fU.length:=(List.getElem?_eq_some_iff.mp (cK hc)).1;have bd:Binds X.K fd ps []:=bd.elim (λz=>absurd hk z.2.1) λz=>z.2;have rd:∀(σ:St) (H:Hp) (Q:VK),tE X.K W E (RF.ie (cl.m c i) c (es.map f) (W.T.dt c) [] []) σ H Q->AS (W.c c) (nR X.K W (cl.m c i) ps.length) [] E (tA X.K W E (RF.b8 (es.map f))) σ H Q:=by
   intro σ H Q ⟨M,ρ,S,s,g⟩;refine bD s g λM1 H1 xs us S1 s1 u1 r1 g1=>?_;intro p dx hp zu cN;have e1:xs++RF.n8 (W.T.dt c) [] []=xs:=by rw[hk];exact List.append_nil _
   have g1:av X.K W au E M1 H1 ((cl.m c i (.ref S1.length::(xs++RF.n8 (W.T.dt c) [] [])) (S1++[.obj c []])).bind _) Q:=g1;rw[e1] at g1;rw[List.append_nil];exact zi C mL hl s1.con r1 hp zu cN g1
  cases es with
  | nil=>refine(Eh (mk rfl) F C.room g1 (C.top.tq x c hc) bd .nil C.pass g2).imp λσ H Q q=>?_;obtain⟨M,ρ,S,s,g⟩:=rd σ H Q q;exact av.now g s.con .nil
  | cons e es=>simp only[List.all_cons,Bool.and_eq_true] at hp;exact(IC (mk rfl) F C.room g1 (C.top.tq x c hc) bd .nil C.pass args g2 (aA hp.1) (bJ hp.2)).imp rd
 .cases es with
  | nil=>rcases hk0 with z | z;exact absurd z hk;cases z
  | cons e es=>exact vR (kws:=[]) C hc hi hM hk hg hA hp rfl rfl List.nodup_nil
theorem LN (C:bV X W Γ E cl k){pf:Pos}(hg:RF.fe Γ "len" = true)(ha:PE X a (tE X.K W E ca))(hp:RF.aI a=true):PE X (.Call (.Name "len" pf) [a] [] pos) (tE X.K W E (RF.dQ W.T.aS cl.m (RF.b9 W.T.cQ "__len__") ca)):=by obtain⟨g1,g2⟩:=C.gl hg;refine(iD (Bs) g1 (C.top.blt _ (by simp[cI])) PySem.boot_len (dW ha gA (aA hp)) (by decide +kernel) g2 (aA hp) (bJ rfl)).imp λσ H Q ⟨M,ρ,S,s,g⟩=>?_;exact bD s g λM1 H1 x u S1 s1 u1 r1 g=>J8 M1 S1 H1 [x] [u] Q s1.con (.cons r1 .nil) g
theorem Dq (C:bV X W Γ E cl k){pf pg p2:Pos}(hg:RF.fe Γ "len" = true)(hs:RF.fe Γ "set" = true)(hb:PE X b (tE X.K W E cb))(hp:RF.aI b=true):
 PE X (.Call (.Name "len" pf) [.Call (.Name "set" pg) [b] [] p2] [] pos) (tE X.K W E (RF.oM cb)):=by
 obtain⟨g1,g2⟩:=C.gl hg;obtain⟨g3,g4⟩:=C.gl hs;have hIs:=iD (p:=pf) (pos:=pos) CB g1 (C.top.blt _ (by simp[cI])) PySem.boot_len (dW (kq (pos:=p2) (p:=pg) (Cd C.calm) g3 (C.top.blt _ (by simp[cI])) PyProof.Rows.boot_set (dW hb gA (aA hp)) (by decide +kernel) g4 (aA hp) (bJ rfl)) gA (aA rfl)) (by decide +kernel) g2 (aA rfl) (bJ rfl);refine hIs.imp λσ H Q ⟨M,ρ,S,s,g⟩=>?_;have g:av X.K W au E M H ((cb ρ S).bind λx S1=>RF.lg x S1) Q:=g;cases ev:cb ρ S with
 | bad=>rw[ev] at g;exact g.elim
 | ok x S1=>
  rw[ev,RF.R.bY] at g;unfold RF.lg at g;cases x with
  | ref n=>
   dsimp only at g;split at g
   .rename_i xs hS;split at g
    .rename_i is e2;obtain⟨hz,g⟩:=av.guard g;refine ee s ev λM1 H1 u s1 u1 r1=>?_;obtain⟨a,rfl,ea⟩:=bw r1;obtain⟨vs,q1,q2⟩:=s1.con.lst hS ea;rw[ug q2 e2] at q1;exact⟨a,is,rfl,cB.of q1,of_decide_eq_true hz,λp Sx hp=>⟨p,Sx,_,rfl,az,av.at_ g (s1.con.fresh hp) (u1.trans (bO hp)) (au.int _)⟩⟩
    .exact g.elim
   .exact g.elim
  | _=>exact g.elim
end
end L2
namespace HT
open PySem PySem.Spec PyProof.Rows
section
open PySem.SeqAt
open PySem.AutoSeq1 (wpAny_loadPart')
open PySem.MeetsSeq PySem.MeetsSeq2 PySem.MeetsSeq3
end
section
variable {prog:Program}{w:World}{A:Around}{E:Value->Sh->Prop}{s:Sh}
end
end HT
namespace HT
open PySem PySem.Spec PyProof.Rows
section
variable {prog:Program}{w:World}{A:Around}{E:Value->Sh->Prop}{s:Sh}
def ev {α:Type}(lt:Nat->Nat->Bool):W.KasT α->α
 | .ret a=>a
 | .ask i j k=>ev lt (k (lt i j))
end
end HT
namespace L2
open PySem PySem.Spec PyProof.Rows HT
section
variable {prog:Program}{w:World}{A:Around}{E:Value->Sh->Prop}{s:Sh}
end
end L2
namespace L2
open PySem PySem.Spec PyProof.Rows HT
section
variable {X:Cx}
end
end L2
namespace L2
open PySem PySem.Spec PyProof.Rows
section
variable {prog:Program}{w:World}{A:Around}{E:Value->Sh->Prop}{s:Sh}
end
section
variable {X:Cx}{pins:List (Addr×Obj)}{σ:St}{H:Hp}{s:Sh}
end
end L2
namespace L2
open PySem PySem.Spec PyProof.Rows
section
variable {X:Cx}
theorem CW:xp X "list.insert" (λx vs H Q=>∃(l:Addr) (xs:List V) (i:Nat) (y:V),x = .ref l/\vs=[.int i,y]/\H l=some (.lst xs)/\i<=xs.length/\xs.length<1000/\Q .aj (upd H l (.lst (xs.take i++y::xs.drop i)))):=by
 intro pins s σ H x vs v us Q I rx rv h;obtain⟨l,xs,i,y,rfl,rfl,hH,hi,hz,q⟩:=h;cases rx;obtain⟨u,u2,rfl,⟨t,rfl⟩,r2⟩:=rv.two;obtain⟨z,ai,n,r,hl,e⟩:=I.kK hH;have hs:1000<=sizeLine:=by decide
 obtain⟨j,hj⟩:∃j:Int,(i:Int)=j:=⟨_,rfl⟩;rw[hj];have jm:¬(!Builtin.List.listFitsIndex j)=true:=by
  have h63:((2:Int) ^ 63)=9223372036854775808:=by decide
  have:=fitsIndex_both (k:=j) (by rw[h63];omega) (by rw[h63];omega);rw[this];decide
 have hsz:ai.toArray.size<=sizeLine:=by rw[List.size_toArray,<-hl];exact z
 have hm:=AutoSeq1.list_insert_list_int_val_1 l ai.toArray n j t u2 jm hsz;refine call_meets F.slot_list_insert ⟨_,e,rfl⟩ F.entry_list_insert (F.args_list_insert_3 _ _ _) hm ⟨e,?_⟩
 .refine⟨.aj,_,I.xc (its':=ai.take i++u2::ai.drop i) hH e ?_ ((r.take i).append (.cons r2 (r.drop i))) ?_,rfl,q⟩
  .have hn:¬j<0:=by omega
   have hjt:j.toNat=i:=by omega
   simp only[hn,if_false,hjt,List.size_toArray];rw[Nat.min_eq_left (by omega)];apply Array.toList_inj.mp;simp;exact List.take_of_length_le (by rw[List.length_drop];exact Nat.le_refl _)
  .rw[List.length_append,List.length_cons,List.length_take,List.length_drop];omega
end
section
variable {prog:Program}{w:World}{A:Around}{E:Value->Sh->Prop}{s:Sh}{κ:Type}[DecidableEq κ]{knd:HeapKind prog w κ}
end
end L2
namespace L2
open PySem PySem.Spec PyProof.Rows PySem.SeqAt
section
variable {X:Cx}
theorem yB {is:List Int}{ai:List Value}(r:Vals (is.map V.int) ai){j:Nat}{v:Value}(e:ai[j]?=some v):∃i t,is[j]?=some i/\v = .int i t:=by
 induction is generalizing ai j with
 | nil=>cases r;simp at e
 | cons i is ih=>
  cases r with
  | cons h t=>
   obtain⟨t0,rfl⟩:=h;cases j with
   | zero=>simp at e;exact⟨i,t0,rfl,e.symm⟩
   | succ j=>exact ih t (by simpa using e)
theorem NS {α β:Type}(f:α->β)(l:List α)(j:Nat):(l.eraseIdx j).map f=(l.map f).eraseIdx j:=by
 induction l generalizing j with
 | nil=>rfl
 | cons x l ih=>cases j with
  | zero=>rfl
  | succ j=>simp[ih]
def GO (i:Int):Value->Bool
 | .int a _=>a==i
 | _=>false
theorem A9 {xs:List V}{us:List Value}(r:Vals xs us)(j:Nat):Vals (xs.eraseIdx j) (us.eraseIdx j):=by
 induction r generalizing j with
 | nil=>simp;exact .nil
 | cons h t ih=>
  cases j with
  | zero=>exact t
  | succ j=>exact .cons h (ih j)
theorem Cs:xp X "list.remove" (λx vs H Q=>∃(l:Addr) (is:List Int) (i:Int),x = .ref l/\vs=[.int i]/\H l=some (.lst (is.map V.int))/\i∈is/\Q .aj (upd H l (.lst ((is.erase i).map V.int)))):=by
 intro pins s σ H x vs v us Q I rx rv h;obtain⟨l,is,i,rfl,rfl,hH,hi,q⟩:=h;cases rx;obtain⟨u,rfl,t,rfl⟩:=rv.one;obtain⟨z,ai,n,r,hl,e⟩:=I.kK hH;have hlen:is.length=ai.length:=by rw[<-hl,List.length_map]
 have hj:is.idxOf i<is.length:=List.idxOf_lt_length_iff.mpr hi;have eqg:∀y∈ai.toArray,MeetsSeq.EqGives y (.int i t) (GO i y):=by intro y hy;obtain⟨j,hj⟩:=List.getElem?_of_mem (show y∈ai by simpa using hy);obtain⟨k,t0,_,rfl⟩:=yB r hj;exact MeetsSeq.EqGives.int k i t0 t
 have at_:∀(m:Nat) (hm:m<ai.toArray.size),∃t0,ai.toArray[m] = .int (is[m]'(by rw[hlen];simpa using hm)) t0:=by
  intro m hm;have uH:m<ai.length:=by simpa using hm
  obtain⟨k,t0,e1,e2⟩:=yB r (j:=m) (List.getElem?_eq_getElem uH);refine⟨t0,?_⟩;have:is[m]'(by rw[hlen];exact uH)=k:=by rw[List.getElem?_eq_getElem (by rw[hlen];exact uH)] at e1;exact Option.some.inj e1
  rw[this];simpa using e2
 have hj':is.idxOf i<ai.toArray.size:=by rw[List.size_toArray,<-hlen];exact hj
 have h1:GO i ai.toArray[is.idxOf i]=true:=by obtain⟨t0,e0⟩:=at_ _ hj';rw[e0];show (is[is.idxOf i]==i)=true;rw[List.getElem_idxOf hj];simp
 have h2:∀(m:Nat) (hm:m<ai.toArray.size),m<is.idxOf i->GO i ai.toArray[m]=false:=by intro m hm de;obtain⟨t0,e0⟩:=at_ _ hm;rw[e0];show (is[m]==i)=false;have:=List.not_of_lt_findIdx (p:=λy=>y==i) (xs:=is) de;simpa using this
 refine call_meets F.slot_list_remove ⟨_,e,rfl⟩ F.entry_list_remove (F.args_list_remove_2 _ _) (MeetsSeq.list_remove l ai.toArray n (.int i t) (GO i) eqg (is.idxOf i) hj' h1 h2 (by rw[List.size_toArray,<-hl];exact z)) ⟨e,?_⟩;refine⟨.aj,_,I.xc (its':=ai.eraseIdx (is.idxOf i)) hH e ?_ ?_ ?_,rfl,q⟩
 .rw[Array.eraseIdxIfInBounds,dif_pos hj'];simp
 .have:=A9 r (is.idxOf i);rw[<-NS] at this;rw[List.erase_eq_eraseIdx_of_idxOf (i:=is.idxOf i) rfl];exact this
 .rw[List.length_map];exact Nat.le_trans List.length_erase_le (by rw[List.length_map] at z;exact z)
theorem Hs (hu:X.A.units+2<cLine):xp X "dict.get" (λx vs H Q=>∃(a b:Addr) (af:List (List Key×V)) (k:List Key) (y:V),x = .ref a/\vs=[.ref b,y]/\H a=some (.dT af)/\H b=some (.tup (k.map kV))/\Q ((cX af k).getD y) H):=by
 intro pins s σ H x vs v us Q I rx rv h;obtain⟨a,b,af,k,y,rfl,rfl,hH,hb,q⟩:=h;cases rx;obtain⟨u,u2,rfl,r1,r2⟩:=rv.two;cases r1;obtain⟨z,hd,xs,rel,dd⟩:=qY I.aw hH;refine call_meetsIn PySem.F.slot_dict_get dd.typeIs PySem.F.entry_dict_get (PySem.F.args_dict_get_3 _ _ _) (meetsH_dict_get_default (tupleKind (aR X.prog X.w)) a b hd u2) ⟨tupleKind_room_in1 (by omega),k,xs,iU I.aw hb,dd,?_⟩;have l:=rel.val k;refine⟨(cX af k).getD y,H,I.tok _,?_,q⟩;cases o:cX af k with
 | none=>
  rw[o] at l;cases q:(atKey xs k).map (·.2) with
  | none=>exact r2
  | some v=>rw[q] at l;exact l.elim
 | some v=>
  rw[o] at l;cases q:(atKey xs k).map (·.2) with
  | none=>rw[q] at l;exact l.elim
  | some u=>rw[q] at l;exact l
def Kw (hs:bc->Int)(H:Hp)(a:Addr)(k:bc)(r:V):Prop:=
 ((H a=some (.dK [])\/H a=some (.dT []))/\r = .aj)\/∃xs af,H a=some (PD hs a xs)/\KP H af xs/\r=(cX af k).getD .aj
theorem Jd (hu:X.A.units+2<cLine):xp X "dict.get" (λx vs H Q=>∃(a b:Addr) (k:bc) (r:V),x = .ref a/\vs=[.ref b]/\Kw (dE X.prog X.w) H a k r/\fv H k b/\Q r H):=by
 intro pins s σ H x vs v us Q I rx rv h;obtain⟨a,b,k,r,rfl,rfl,hg,hb,q⟩:=h;cases rx;obtain⟨u,rfl,r1⟩:=rv.one;cases r1;rcases hg with⟨he,rfl⟩|⟨xs,af,he,rel,rfl⟩
 .obtain⟨hd,dd⟩:=qM I he;exact Dc (o:=none) hu I hd dd hb trivial λw' s' I' r'=>⟨.aj,H,I',r',q⟩
 .obtain⟨hd,_,dd⟩:=Gx I.aw he rel;exact Dc hu I hd dd hb (rel.val k) λw' s' I' r'=>⟨_,H,I',r',q⟩
def Mr (hs:bc->Int)(td ty:TE):TE:=λσ H Q=>td σ H λx H1=>∃a,x = .ref a/\(L3 H1 a\/∃xs,H1 a=some (PD hs a xs))/\ty σ H1 λy H2=>∃b k r,y = .ref b/\Kw hs H2 a k r/\fv H2 k b/\Q r H2
theorem N1 {pins:List (Addr×Obj)}{σ:St}{H:Hp}{s:Sh}{a:Addr}{hs:bc->Int}{xs:List (bc×Addr×Value)}(I:Inv X pins σ H s)(e:H a=some (PD hs a xs)):
 s.TypeIs (.ref a) "dict"/\(∀b,Value.ref a = .ref b->∃ob,s.heap.get? b=some ob/\ob.dict=none):=by
 obtain⟨⟨h1,h2,h3,o,es,ep,g1,g2,g3,g4⟩,_⟩:=(show aV X.prog X.w H s.heap a (PD hs a xs) from I.aw a _ e);refine⟨⟨o,g1,g2.1⟩,λb hb=>?_⟩;cases hb;exact⟨o,g1,g2.2.1⟩
theorem Fv {o e:Expr}{td ty:TE}{apos dU:Pos}(hu:X.A.units+2<cLine)(ho:PE X o td)(he:PE X e ty)(m:M1 X o "get" apos e dU):PE X (.Call (.Attribute o "get" apos) [e] [] dU) (Mr (dE X.prog X.w) td ty):=by
 intro pins s σ H Q I h;refine wpAny_Call_method m.base m.few m.line PySem.F.plainAttrs_dict PySem.F.slot_dict_get PySem.F.type_dict_get (aK (ho pins s σ H _ I h) λu s1 ⟨x,H1,I1,rx,a,ex,d,q1⟩=>?_);subst ex;obtain rfl:u=Value.ref a:=rx;have tt:s1.TypeIs (.ref a) "dict"/\(∀b,Value.ref a = .ref b->∃ob,s1.heap.get? b=some ob/\ob.dict=none):=by
  rcases d with d | ⟨xs,d⟩
  .obtain⟨t1,t2,_⟩:=C4 I1 d;exact⟨t1,t2⟩
  .exact N1 I1 d
 refine⟨tt.1,tt.2,?_⟩;rw[m.trees];refine Calls.callWith_builtin rfl (Calls.evalArgs_plain (Calls.spliced_cons (aK (he pins s1 σ H1 _ I1 q1) λiv s2 ⟨y,H2,I2,ry,b,k,r,ey,g,eb,q2⟩=>Calls.spliced_nil ?_)));subst ey;exact Jd hu pins s2 σ H2 (.ref a) [.ref b] _ _ Q I2 rfl (.cons ry .nil) ⟨a,b,k,r,rfl,rfl,g,eb,q2⟩
end
end L2
namespace L2
open PySem PySem.Spec PyProof.Rows
open RF (D O ae Tab)
section
variable {X:Cx}{W:bj}{Γ:RF.Gm}{E:XK}{cl:RF.Calls}{k:Nat}{a b c e:Expr}{ca cb cc:RF.C D}{pos apos:Pos}
def By:RF.Mt->Str×Nat
 | .append=>("append",1)
 | .pop=>("pop",1)
 | .get=>("get",1)
 | .qx=>("get",2)
 | .extend=>("extend",1)
 | .remove=>("remove",1)
 | .insert=>("insert",2)
theorem lN {m:Str}{n:Nat}{b:RF.Mt}(h:RF.AK m n=some b):m=(By b).1/\n=(By b).2:=by
 unfold RF.AK at h
 repeat' split at h
 all_goals first | (cases h;assumption) | cases h
theorem jA {d:D}(h:RF.eE d=true):∃q:bc,d=ofPair q:=by
 unfold RF.eE at h;split at h
 .obtain⟨ks,rfl⟩:=gR h;exact⟨(ks,_),rfl⟩
 .cases h
theorem qK {a b:bc}(e:ofPair a=ofPair b):a=b:=by obtain⟨a1,a2⟩:=a;obtain⟨b1,b2⟩:=b;unfold ofPair at e;simp only[RF.D.tup.injEq,List.cons.injEq,RF.D.int.injEq,and_true] at e;rw[dJ e.1,e.2]
theorem n9 {M:List Addr}{H:Hp}{q:bc}{v:V}(r:au M H (ofPair q) v):∃b,v = .ref b/\fv H q b:=by
 obtain⟨b,vs,e,hb,hs⟩:=cD r;cases hs with
 | cons h1 t1=>
  cases t1 with
  | cons h2 t2=>cases t2;cases h2;obtain⟨c,ws,e1,hc,hk⟩:=cD h1;subst e1;rw[lx hk] at hc;exact⟨b,e,c,hb,hc⟩
theorem Fc (hu:X.A.units+2<cLine):xp X "dict.get" (λx vs H Q=>∃(a b:Addr) (H':Hp) (af:List (List Key×V)) (k:List Key) (y:V),x = .ref a/\vs=[.ref b,y]/\(H'=H\/kh H a H')/\H' a=some (.dT af)/\H' b=some (.tup (k.map kV))/\Q ((cX af k).getD y) H'):=by
 intro pins s σ H x vs v us Q I rx rv h;obtain⟨a,b,H',af,k,y,rfl,rfl,hr,h1,h2,q⟩:=h;have I':Inv X pins σ H' s:=by
  rcases hr with rfl | hr
  .exact I
  .exact I.ret hr
 exact Hs hu pins s σ H' _ _ _ _ Q I' rx rv ⟨a,b,af,k,y,rfl,rfl,h1,h2,q⟩
theorem D5 {xs:List D}{is:List Int}(h:RF.iR xs=some is):xs=is.map D.int:=by
 induction xs generalizing is with
 | nil=>cases h;rfl
 | cons x xs ih=>
  cases x with
  | int i=>unfold RF.iR at h;obtain⟨js,h1,rfl⟩:=Option.map_eq_some_iff.mp h;rw[ih h1];rfl
  | _=>simp[RF.iR] at h
theorem Br {M:List Addr}{H:Hp}{is:List Int}{vs:List V}(r:ay M H (is.map D.int) vs):vs=is.map V.int:=by
 induction is generalizing vs with
 | nil=>cases r;rfl
 | cons i is ih=>
  cases r with
  | cons h t=>cases h;rw[ih t];rfl
theorem tZ {M:List Addr}{H:Hp}:∀is:List Int,ay M H (is.map D.int) (is.map V.int)
 | []=>.nil
 | _::is=>.cons (.int _) (tZ is)
theorem vO {κ:Type}[DecidableEq κ]{f:κ->D}(hf:∀a b,f a=f b->a=b){M:List Addr}{H:Hp}{af:List (D×D)}{ks:List (κ×V)}(h:Paired (cm f M H) af ks)(q:κ):Paired (cm f M H) (RF.iP af (f q)) (dA ks q):=by
 induction h with
 | nil=>exact .nil
 | @cons p r af ks hr t ih=>
  unfold RF.iP dA at ih ⊢;rw[List.filter_cons,List.filter_cons]
  by_cases e:r.1=q
  .rw[if_neg (by rw[hr.1,e];simp),if_neg (by rw[e];simp)];exact ih
  .have e':¬p.1=f q:=λz=>e (hf _ _ (hr.1.symm.trans z));rw[if_pos (by simp[e']),if_pos (by simp[e])];exact .cons hr ih
theorem GX {es:List Expr}(h:es.length=2):∃e f,es=[e,f]:=by
 match es,h with
 | [e,f],_=>exact⟨e,f,rfl⟩
theorem qL {f:Expr->RF.C D}{es:List Expr}(h:es.length=1):∃e,es=[e]:=by
 match es,h with
 | [e],_=>exact⟨e,rfl⟩
theorem Hl (C:bV X W Γ E cl k){m:Str}{f:Expr->RF.C D}{es:List Expr}(ha:PE X a (tE X.K W E ca))(h:∀e∈es,PE X e (tE X.K W E (f e)))(hp:es.all RF.aI=true)(hb:RF.i0 a=true)(hl:(apos.endLine==pos.line)=true)(hn:es.length<30)(hi0:m≠("__init__":Str)):
 PE X (.Call (.Attribute a m apos) es [] pos) (tE X.K W E (RF.aF W.T.aS cl.m (RF.b9 W.T.cQ m) (RF.AK m es.length) ca (es.map f))):=by
 have args:=fb h hp;intro pins s σ H Q I ⟨M,ρ,S,sm,g⟩;unfold RF.aF at g;cases e:ca ρ S with
 | bad=>rw[e] at g;exact g.elim
 | ok x S1=>
  rw[e,RF.R.bY] at g;split at g
  .rename_i n;split at g
   .rename_i cc fs hS;split at g
    .rename_i i hi;obtain⟨hM,g⟩:=av.guard g;rw[Bool.and_eq_true] at hM;obtain⟨fa,fd,ps,F,hln,hmt,bd,_,mL⟩:=C.top.mt cc i m hM.2 (cK hi);have rd:Ba (W.c cc) m (nR X.K W (cl.m cc i) ps.length) [] E (tE X.K W E ca) (tA X.K W E (RF.b8 (es.map f))) σ H Q:=by
      refine ee sm e λM1 H1 u s1 u1 r1=>?_;obtain⟨p,rfl,ea⟩:=bw r1;obtain⟨dx,gs,h1,hc,h2⟩:=s1.con.at_ n _ p hS ea;refine⟨p,dx,gs,rfl,h1,?_,?_⟩
      .rcases vZ (K:=X.K) s1.con.sk h2 (cK hi) with⟨_,z⟩|⟨d,v,z,_⟩
       .exact z
       .rw[z] at hM;cases hM.1
      .refine bD s1 (av.up g u1) λM2 H2 xs us S2 s2 u2 r2 g2=>?_;rw[List.append_nil];exact k9 (xs:=.ref n::xs) s2.con (.cons ((au.ref ea).up u2) r2) hln g2
     cases es with
     | nil=>
      refine FT ha mL hmt F (C.room.mono (Nat.le_succ k)) (bd.plain hi0) .nil C.pass (tS hb hp hn hl) pins s σ H Q I ?_;refine ee sm e λM1 H1 u s1 u1 r1=>?_;obtain⟨p,rfl,ea⟩:=bw r1;obtain⟨dx,gs,h1,hc,h2⟩:=s1.con.at_ n _ p hS ea;refine⟨p,dx,gs,rfl,h1,?_,k9 (xs:=[.ref n]) s1.con (.cons (.ref ea) .nil) hln (av.up g u1)⟩;rcases vZ (K:=X.K) s1.con.sk h2 (cK hi) with⟨_,z⟩|⟨d,v,z,_⟩
      .exact z
      .rw[z] at hM;cases hM.1
     | cons e1 es=>have mM:=hp;simp only[List.all_cons,Bool.and_eq_true] at mM;exact Iz ha mL hmt F (C.room.mono (Nat.le_succ k)) (bd.plain hi0) .nil C.pass args (aA mM.1) (bJ mM.2) (tS hb hp hn hl) pins s σ H Q I rd
    .exact g.elim
   .rename_i o zm hS;split at g
    .rename_i bm xM;obtain⟨jm,g⟩:=av.guard g;cases bm with
     | append=>
      obtain⟨rfl,kB⟩:=lN xM;obtain⟨e1,rfl⟩:=qL (f:=f) kB;have lG:RF.aI e1=true:=by simpa using hp
      cases o with
      | lst zr=>
       refine rA PySem.F.plainAttrs_list PySem.F.slot_list_append PySem.F.type_list_append Bz ha args (gi hb) (ja hp hn) hl (aA lG) (bJ rfl) pins s σ H Q I
        (ee sm e λM1 H1 u s1 u1 r1=>?_)
       obtain⟨p,vs,rfl,ea,h1,h2⟩:=fX s1.con hS r1;refine⟨.inl ⟨rfl,vs,cB.of h1⟩,bD s1 (av.up g u1) λM2 H2 ys us S2 s2 u2 r2 g2=>?_⟩;replace g2:av X.K W au E M2 H2 (RF.n6 n ys S2) Q:=g2;unfold RF.n6 at g2;split at g2
       .rename_i xs v fV;obtain⟨hz,g2⟩:=av.guard g2;obtain⟨w,rfl,rw'⟩:=oJ r2;have iu:=dY u2.pre ea;obtain⟨uJ,k1,k2⟩:=s2.con.lst fV iu;refine⟨p,uJ,w,rfl,rfl,k1,by rw[<-k2.length];exact of_decide_eq_true hz,?_⟩;have nt:c7 (H2 p):=dN k1 rfl;exact av.at_ g2 (s2.con.put fV iu rfl rfl nt ⟨_,az,(k2.append (.cons rw' .nil)).up (aO nt)⟩) (aO nt) .aj
       .exact g2.elim
      | _=>cases jm
     | pop=>
      obtain⟨rfl,kB⟩:=lN xM;obtain⟨e1,rfl⟩:=qL (f:=f) kB;have lG:RF.aI e1=true:=by simpa using hp
      have st:starEach [e1] X.env=[(false,eval e1 X.env)]:=by rw[aA lG];rfl
      cases o with
      | aG F5=>
       refine EB C.mU ha (h e1 List.mem_cons_self) ⟨gi hb,ja hp hn,hl,by rw[st];rfl⟩ pins s σ H Q I (ee sm e λM1 H1 u s1 u1 r1=>?_);obtain⟨p,rfl,ea⟩:=bw r1;refine⟨p,rfl,?_,?_⟩
       .rcases s1.con.at_ n _ p hS ea with⟨ks,h1,_⟩|⟨ts,h1,_⟩
        .exact .inl ⟨ks,.inl h1⟩
        .exact .inr ⟨ts,.inl h1⟩
       .have g:=av.up g u1;have g:av X.K W au E M1 H1 ((f e1 ρ S1).bind λy S2=>RF.fE .pop (.ref n) [y] S2) Q:=by
         have e3:(RF.b8 ([e1].map f) ρ S1).bind (λxs S2=>RF.fE .pop (.ref n) xs S2)=(f e1 ρ S1).bind λy S2=>RF.fE .pop (.ref n) [y] S2:=by show ((f e1 ρ S1).bind λx S1=>(RF.R.ok [] S1).bind λxs S2=>RF.R.ok (x::xs) S2).bind _=_;cases f e1 ρ S1<;>rfl
         rw[e3] at g;exact g
        refine bD s1 g λM2 H2 y w S2 s2 u2 r2 g2=>?_;replace g2:av X.K W au E M2 H2 (RF.zO n [y] S2) Q:=g2;unfold RF.zO at g2;split at g2
        .rename_i af kk fV DE;cases DE;obtain⟨hk,g2⟩:=av.guard g2;rw[Bool.and_eq_true] at hk;split at g2
         .rename_i d hd;have iu:=dY u2.pre ea;obtain⟨q,rfl⟩:=gR hk.1;obtain⟨bq,vs,rfl,ka,hs⟩:=cD r2;rw[lx hs] at ka;rcases s2.con.at_ n _ p fV iu with⟨ks,h1,h2⟩|⟨ts,h1,h2⟩
          .have:=mS (gN h2) (kG hk.1);rw[this] at hd;cases hd
          .rcases fR (λ_ _=>dJ) h2 q with⟨z1,_⟩|⟨d',v,z1,z2,z3⟩
           .rw[z1] at hd;cases hd
           .rw[z1] at hd;cases hd;have nt:c7 (H2 p):=dN h1 rfl;exact⟨bq,ts,q,v,rfl,h1,ka,z2,av.at_ g2 (s2.con.put fV iu rfl rfl nt (.inr ⟨_,az,Paired.up (vO (λ_ _=>dJ) h2 q) (aO nt)⟩)) (aO nt) (z3.up (aO nt))⟩
         .exact g2.elim
        .exact g2.elim
      | _=>cases jm
     | extend=>
      obtain⟨rfl,kB⟩:=lN xM;obtain⟨e1,rfl⟩:=qL (f:=f) kB;have lG:RF.aI e1=true:=by simpa using hp
      cases o with
      | lst zr=>
       refine rA PySem.F.plainAttrs_list PySem.F.slot_list_extend PySem.F.type_list_extend CH ha args (gi hb) (ja hp hn) hl (aA lG) (bJ rfl) pins s σ H Q I
        (ee sm e λM1 H1 u s1 u1 r1=>?_)
       obtain⟨p,vs,rfl,ea,h1,h2⟩:=fX s1.con hS r1;refine⟨.inl ⟨rfl,vs,cB.of h1⟩,bD s1 (av.up g u1) λM2 H2 ys us S2 s2 u2 r2 g2=>?_⟩;replace g2:av X.K W au E M2 H2 (RF.iL n ys S2) Q:=g2;have iu:=dY u2.pre ea;unfold RF.iL at g2;split at g2
       .rename_i xs m fV;split at g2
        .rename_i zs hS3;obtain⟨hz,g2⟩:=av.guard g2;obtain⟨w,rfl,rw'⟩:=oJ r2;obtain⟨uJ,k1,k2⟩:=s2.con.lst fV iu;obtain⟨p3,vs3,rfl,ea3,k3,k4⟩:=fX s2.con hS3 rw';refine⟨p,p3,uJ,vs3,rfl,rfl,k1,k3,by rw[<-k2.length,<-k4.length];exact of_decide_eq_true hz,?_⟩;have nt:c7 (H2 p):=dN k1 rfl;exact av.at_ g2 (s2.con.put fV iu rfl rfl nt ⟨_,az,(k2.append k4).up (aO nt)⟩) (aO nt) .aj
        .exact g2.elim
       .exact g2.elim
      | _=>cases jm
     | remove=>
      obtain⟨rfl,kB⟩:=lN xM;obtain⟨e1,rfl⟩:=qL (f:=f) kB;have lG:RF.aI e1=true:=by simpa using hp
      cases o with
      | lst zr=>
       refine rA PySem.F.plainAttrs_list PySem.F.slot_list_remove PySem.F.type_list_remove Cs ha args (gi hb) (ja hp hn) hl (aA lG) (bJ rfl) pins s σ H Q I
        (ee sm e λM1 H1 u s1 u1 r1=>?_)
       obtain⟨p,vs,rfl,ea,h1,h2⟩:=fX s1.con hS r1;refine⟨.inl ⟨rfl,vs,cB.of h1⟩,bD s1 (av.up g u1) λM2 H2 ys us S2 s2 u2 r2 g2=>?_⟩;replace g2:av X.K W au E M2 H2 (RF.oj n ys S2) Q:=g2;have iu:=dY u2.pre ea;unfold RF.oj at g2;split at g2
       .rename_i xs i fV;split at g2
        .rename_i is hi;obtain⟨hz,g2⟩:=av.guard g2;obtain⟨w,rfl,rw'⟩:=oJ r2;cases rw';obtain⟨uJ,k1,k2⟩:=s2.con.lst fV iu;rw[D5 hi] at k2;rw[Br k2] at k1;refine⟨p,is,i,rfl,rfl,k1,of_decide_eq_true hz,?_⟩;have nt:c7 (H2 p):=dN k1 rfl;exact av.at_ g2 (s2.con.put fV iu rfl rfl nt ⟨_,az,tZ _⟩) (aO nt) .aj
        .exact g2.elim
       .exact g2.elim
      | _=>cases jm
     | insert=>
      obtain⟨rfl,kB⟩:=lN xM;obtain⟨e1,e2,rfl⟩:=GX kB;have mM:=hp;simp only[List.all_cons,List.all_nil,Bool.and_true,Bool.and_eq_true] at mM;have lG:=mM.1;have uG:[e2].all RF.aI=true:=by simpa using mM.2
      cases o with
      | lst zr=>
       refine rA PySem.F.plainAttrs_list PySem.F.slot_list_insert PySem.F.type_list_insert CW ha args (gi hb) (ja hp hn) hl (aA lG) (bJ uG) pins s σ H Q I
        (ee sm e λM1 H1 u s1 u1 r1=>?_)
       obtain⟨p,vs,rfl,ea,h1,h2⟩:=fX s1.con hS r1;refine⟨.inl ⟨rfl,vs,cB.of h1⟩,bD s1 (av.up g u1) λM2 H2 ys us S2 s2 u2 r2 g2=>?_⟩;replace g2:av X.K W au E M2 H2 (RF.om n ys S2) Q:=g2;have iu:=dY u2.pre ea;unfold RF.om at g2;split at g2
       .rename_i xs i v fV;obtain⟨hz,g2⟩:=av.guard g2;rw[Bool.and_eq_true,Bool.and_eq_true] at hz;obtain⟨w,w2,rfl,rw',rw2⟩:=ve r2;cases rw';have h0:0<=i:=of_decide_eq_true hz.1.1;obtain⟨uJ,k1,k2⟩:=s2.con.lst fV iu;have hi:((i.toNat:Nat):Int)=i:=Int.toNat_of_nonneg h0;refine⟨p,uJ,i.toNat,w2,rfl,by rw[hi],k1,by rw[<-k2.length];exact of_decide_eq_true hz.1.2,by rw[<-k2.length];exact of_decide_eq_true hz.2,?_⟩;have nt:c7 (H2 p):=dN k1 rfl;exact av.at_ g2 (s2.con.put fV iu rfl rfl nt ⟨_,az,((k2.take _).append (.cons rw2 (k2.drop _))).up (aO nt)⟩) (aO nt) .aj
       .exact g2.elim
      | _=>cases jm
     | qx=>
      obtain⟨rfl,kB⟩:=lN xM;obtain⟨e1,e2,rfl⟩:=GX kB;have mM:=hp;simp only[List.all_cons,List.all_nil,Bool.and_true,Bool.and_eq_true] at mM;have lG:=mM.1;have uG:[e2].all RF.aI=true:=by simpa using mM.2
      cases o with
      | aG F5=>
       refine rA PySem.F.plainAttrs_dict PySem.F.slot_dict_get PySem.F.type_dict_get (Fc C.mU) ha args (gi hb) (ja hp hn) hl (aA lG) (bJ uG) pins s σ H Q I
        (ee sm e λM1 H1 u s1 u1 r1=>?_)
       obtain⟨p,rfl,ea⟩:=bw r1;refine⟨.inr (.inr (.inl ⟨rfl,?_⟩)),bD s1 (av.up g u1) λM2 H2 ys us S2 s2 u2 r2 g2=>?_⟩
       .rcases s1.con.at_ n _ p hS ea with⟨ks,h1,_⟩|⟨ts,h1,_⟩
        .exact .inl ⟨ks,h1⟩
        .exact .inr ⟨ts,h1⟩
       replace g2:av X.K W au E M2 H2 (RF.vd n ys S2) Q:=g2;have iu:=dY u2.pre ea;unfold RF.vd at g2;split at g2
       .rename_i af kk dd fV;obtain⟨hz,g2⟩:=av.guard g2;rw[Bool.and_eq_true] at hz;obtain⟨w,w2,rfl,rw',rw2⟩:=ve r2;obtain⟨H',hr,c',u',al⟩:=pS s2.con fV iu hz.2 rw';rcases al with⟨ks,q,_,_,rfl,_⟩|⟨ts,q,b,g1,gp,rfl,rfl,g3⟩
        .have:=hz.1;cases q<;>simp[RF.aY,dO] at this
        .refine⟨p,b,H',ts,q,w2,rfl,rfl,hr,g1,g3,?_⟩;refine av.at_ g2 c' u' ?_;rcases fR (λ_ _=>dJ) gp q with⟨z1,z2⟩|⟨d,v,z1,z2,z3⟩
         .rw[z1,z2];exact rw2.up u'
         .rw[z1,z2];exact z3
       .exact g2.elim
      | _=>cases jm
     | get=>
      obtain⟨rfl,kB⟩:=lN xM;obtain⟨e1,rfl⟩:=qL (f:=f) kB;have lG:RF.aI e1=true:=by simpa using hp
      have st:starEach [e1] X.env=[(false,eval e1 X.env)]:=by rw[aA lG];rfl
      refine Fv C.mU ha (h e1 List.mem_cons_self) ⟨gi hb,ja hp hn,hl,by rw[st];rfl⟩ pins s σ H Q I (ee sm e λM1 H1 u s1 u1 r1=>?_);obtain⟨p,rfl,ea⟩:=bw r1;refine⟨p,rfl,?_,?_⟩
      .cases o with
       | aG F5=>
        rcases s1.con.at_ n _ p hS ea with⟨ks,h1,_⟩|⟨ts,h1,_⟩
        .exact .inl (.inl ⟨ks,.inl h1⟩)
        .exact .inl (.inr ⟨ts,.inl h1⟩)
       | jr F5=>obtain⟨xs,ps,h1,_⟩:=s1.con.at_ n _ p hS ea;rw[C.top.ph] at h1;exact .inr ⟨xs,h1⟩
       | _=>cases jm
      .have g:=av.up g u1;have g:av X.K W au E M1 H1 ((f e1 ρ S1).bind λy S2=>RF.sL n [y] S2) Q:=by
        have e3:(RF.b8 ([e1].map f) ρ S1).bind (λxs S2=>RF.fE .get (.ref n) xs S2)=(f e1 ρ S1).bind λy S2=>RF.sL n [y] S2:=by show ((f e1 ρ S1).bind λx S1=>(RF.R.ok [] S1).bind λxs S2=>RF.R.ok (x::xs) S2).bind _=_;cases f e1 ρ S1<;>rfl
        rw[e3] at g;exact g
       refine bD s1 g λM2 H2 y w S2 s2 u2 r2 g2=>?_;have iu:=dY u2.pre ea;unfold RF.sL at g2;split at g2
       .rename_i af kk fV DE;cases DE;obtain⟨hz,g3⟩:=av.guard g2;clear g2;rw[Bool.and_eq_true] at hz;obtain⟨q,rfl⟩:=jA hz.1;obtain⟨b,rfl,ka⟩:=n9 r2;have hk:=List.isEmpty_iff.mp hz.2;subst hk;refine⟨b,q,.aj,rfl,.inl ⟨?_,rfl⟩,ka,av.now g3 s2.con .aj⟩;rcases s2.con.at_ n _ p fV iu with⟨ks,h1,h2⟩|⟨ts,h1,h2⟩
        .cases h2;exact .inl h1
        .cases h2;exact .inr h1
       .rename_i af kk fV DE;cases DE;obtain⟨hz,g3⟩:=av.guard g2;clear g2;obtain⟨q,rfl⟩:=jA hz;obtain⟨b,rfl,ka⟩:=n9 r2;obtain⟨xs,ps,h1,h2,h3⟩:=s2.con.at_ n _ p fV iu;rw[C.top.ph] at h1;refine⟨b,q,_,rfl,.inr ⟨xs,ps,h1,h2,rfl⟩,ka,av.now g3 s2.con ?_⟩;rcases fR (λ_ _=>qK) h3 q with⟨z1,z2⟩|⟨d,v,z1,z2,z3⟩
        .rw[z1,z2];exact .aj
        .rw[z1,z2];exact z3
       .exact g2.elim
    .exact g.elim
   .exact g.elim
  .exact g.elim
end
end L2
namespace L2
open PySem PySem.Spec PyProof.Rows
section
variable {X:Cx}
section
variable {CX:ku}{k:Nat}{f C:Addr}{fd:FuncData}{ps:List Str}{sp:Sp}{E:XK}
end
end
end L2
namespace L2
open PySem PySem.Spec PyProof.Rows
theorem uy (n:Nat):Builtin.Range.rangeSize n (-1) (-1)=n+1:=by unfold Builtin.Range.rangeSize;rw[if_neg (by decide),if_pos (by omega)];have:(-(-1):Int)=1:=rfl;rw[this,Int.ediv_one];omega
theorem ky {i:Int}(h0:-1000000<=i)(h1:i<=1000000):Builtin.Range.rangeFitsLong i=true:=by
 unfold Builtin.Range.rangeFitsLong;have h63:((2:Int) ^ 63)=9223372036854775808:=by decide
 simp only[h63,Bool.and_eq_true,decide_eq_true_eq];omega
def Lv (n:Nat):It:=⟨λi _=>i<n+1,λi H x H'=>H'=H/\x = .int ((n:Int)-i),λi _=>n+1<=i⟩
theorem B8 {P:Program}{w:World}{K:Fg}{tg:Expr}(it:Addr)(n:Nat):Turn P w K tg (Lv n) [it] it (λi h=>IsRangeIter h it ((n:Int)+(i:Nat)*(-1)) (((n+1:Nat):Int)-(i:Nat)) (-1)) where
 mem:=by simp
 obj:=λi h st b hb=>by
  have e:b=it:=by simpa using hb
  subst e;exact⟨_,st,λv z=>by have z':Data.fields _=Data.cell v:=z;cases z'⟩
 keep:=λi h h' st k=>k it (by simp) _ st
 item:=by
  intro X hP hw hK hc i pins s σ H E I hf st hg;subst hP hw hK;obtain⟨f0,f1,f2,f3,f4,f5⟩:=hf it (by simp);have W:=Walks.range (prog:=X.prog) (w:=X.w) (I.ok.hd hc) it n (-1) (n+1);refine W.item i s _ _ hg st λv h' tk hv jq kk=>?_;obtain⟨t,rfl⟩:=hv;have I1:Inv X pins σ H { s with heap:=h',toks:=tk }:=I.turned (λb o hb e=>kk b o (by simpa using hb) e) f0 f1 f3 f4 f5;refine⟨_,rfl,rp (s:={ s with heap:=h',toks:=tk }) (n:="range_iterator") jq rfl rfl (by decide) ⟨.int ((n:Int)-i),H,I1,⟨t,?_⟩,⟨rfl,rfl⟩,jq,λb hb=>(hf b hb).1⟩⟩;have:(n:Int)+(i:Int)*(-1)=(n:Int)-i:=by omega
  rw[this]
 done:=by intro X hP hw hK hc i pins s σ H E I hf st hg;subst hP hw hK;obtain⟨f0,f1,f2,f3,f4,f5⟩:=hf it (by simp);exact wpAny_pyNext_range_end (I.ok.hd hc) st (by have:n+1<=i:=hg;omega) λh' eb=>⟨rfl,I.turned (t':=s.toks) (λb o hb e=>eb b o hb e) f0 f1 f3 f4 f5⟩
 self:=λ_ _ _ _ _ st h=>wpAny_pyIter_rangeiter st h
section
variable {X:Cx}{tg:Expr}
def NW (ta:TA):TI:=λσ H R=>ta σ H λvs H1=>∃n:Nat,vs=[.int n,.int (-1),.int (-1)]/\n<=1000/\R (Lv n) H1
theorem De {a b c:Expr}{ta:TA}{p pos:Pos}(hg:Gl X "range")(hm:X.mg "range" = none)(ha:PA X [a,b,c] ta)(hs:starEach [a,b,c] X.env=[(false,eval a X.env),(false,eval b X.env),(false,eval c X.env)]:=by rfl)(xF:starEach [b,c] X.env=[(false,eval b X.env),(false,eval c X.env)]:=by rfl):
 PI X tg (.Call (.Name "range" p) [a,b,c] [] pos) (NW ta):=by
 intro pins s σ H R I h;refine Call_ (m6 I hg hm boot_range (PyProof.Rows.callWith_type1 (aK (ha pos pins s σ H _ I h) λus s1 ⟨vs,H1,I1,r1,q1⟩=>?_) (by rw[hs,xF]) (by rw[xF];rfl)));obtain⟨n,e,hn,q⟩:=q1;subst e;cases r1 with
 | cons r rr=>
  cases rr with
  | cons r' rr=>
   cases rr with
   | cons r'' rr=>
    cases rr;obtain⟨t,rfl⟩:=r;obtain⟨t',rfl⟩:=r';obtain⟨t'',rfl⟩:=r'';refine call_range_3 (by decide) ?_ (.inl ?_)
    .refine wpAny_pyIter_range (IsRange.new ..) ?_ ?_
     .unfold Builtin.Range.small;rw[uy,ky (by omega) (by omega),ky (by decide) (by decide),ky (by omega) (by omega),if_neg (by decide),ky (by decide) (by decide)];simp
     .have I2:=I1.kept (t':=s1.toks) (h':=s1.heap.push { cls:=.type "range",data:=.fields #[.int n t,.int (-1) t',.int (-1) t''] }) λb o e=>Heap.get?_push_of_some _ e;refine⟨(s1.heap.push { cls:=.type "range",data:=.fields #[.int n t,.int (-1) t',.int (-1) t''] }).objs.size,[(s1.heap.push { cls:=.type "range",data:=.fields #[.int n t,.int (-1) t',.int (-1) t''] }).objs.size],_,_,H1,rfl,
       I2.kept (t':=s1.toks) λb o e=>Heap.get?_push_of_some _ e,B8 _ n,?_,λb hb=>?_,q⟩
      .have e1:(n:Int)+((0:Nat):Int)*(-1)=n:=by simp
       have e2:(((n+1:Nat):Nat):Int)-((0:Nat):Int)=Builtin.Range.rangeSize n (-1) (-1):=by rw[uy];omega
       show IsRangeIter _ _ ((n:Int)+((0:Nat):Int)*(-1)) (((n+1:Nat):Int)-((0:Nat):Int)) (-1);rw[e1,e2];exact Heap.get?_push_size _ rfl
      .have e:b=(s1.heap.push { cls:=.type "range",data:=.fields #[.int n t,.int (-1) t',.int (-1) t''] }).objs.size:=by simpa using hb
       subst e;exact I2.me (Nat.le_refl _) (I2.aw.fresh (Nat.le_refl _))
    .exact PyProof.noPylong_small (by decide)
end
end L2
namespace L2
open PySem PySem.Spec PyProof.Rows
open RF (D O ae Tab)
structure Wk (K:Fg)(W:bj)(J:It)(items:List D)(chk:ae->Bool)(ok:List Addr->ae->Hp->Prop):Prop where
 go:∀i M S H,Cn K W M S H->ok M S H->i<items.length->J.go i H/\∀x H',J.xB i H x H'->H'=H/\∃d,items[i]?=some d/\au M H d x
 stop:∀i M S H,Cn K W M S H->ok M S H->items.length<=i->J.stop i H
 keep:∀M S H M' S' H',ok M S H->Up M H M' H'->Cn K W M' S' H'->chk S'=true->ok M' S' H'
section
variable {K:Fg}{W:bj}{M:List Addr}{S:ae}{H:Hp}{ρ:RF.Env}{σ:St}{E:XK}
theorem sv {n:Nat}{a:Addr}{items:List D}:Wk K W (yi K a) items (RF.e9 (.ref n) items) (λM S H=>M[n]?=some a/\RF.itemsOf S (.ref n)=some items) where
 go:=λi M S H c ⟨h1,h2⟩ hi=>by
  obtain⟨vs,hs,hv⟩:=c.items h2 h1;obtain⟨v,g1,g2⟩:=hv.get (List.getElem?_eq_getElem hi);exact⟨⟨vs,v,hs,g1⟩,λx H' y=>⟨y.1,_,List.getElem?_eq_getElem hi,by
   have:=y.2 vs hs;rw[g1] at this;cases this;exact g2⟩⟩
 stop:=λi M S H c ⟨h1,h2⟩ hi=>by obtain⟨vs,hs,hv⟩:=c.items h2 h1;exact⟨vs,hs,by rw[<-hv.length];exact hi⟩
 keep:=λM S H M' S' H' ⟨h1,h2⟩ u c hc=>⟨dY u.pre h1,of_decide_eq_true hc⟩
theorem LP {a:Addr}{items:List D}:Wk K W (Lf K a) items (λ_=>true) (λM S H=>au M H (.tup items) (.ref a)) where
 go:=λi M S H c h hi=>by
  obtain⟨p,vs,e,hp,hv⟩:=cD h;cases e;obtain⟨v,g1,g2⟩:=hv.get (List.getElem?_eq_getElem hi);exact⟨⟨vs,v,cz.of hp,g1⟩,λx H' y=>⟨y.1,_,List.getElem?_eq_getElem hi,by
   have:=y.2 vs (cz.of hp);rw[g1] at this;cases this;exact g2⟩⟩
 stop:=λi M S H c h hi=>by obtain⟨p,vs,e,hp,hv⟩:=cD h;cases e;exact⟨vs,cz.of hp,by rw[<-hv.length];exact hi⟩
 keep:=λM S H M' S' H' h u c _=>h.up u
theorem zR {lo:Int}{n i:Nat}(hi:i<n):(RF.dZ lo n)[i]?=some (.int (lo+i)):=by unfold RF.dZ;rw[List.getElem?_map,List.getElem?_range hi];rfl
theorem rj {lo:Int}{n:Nat}:(RF.dZ lo n).length=n:=by unfold RF.dZ;simp
theorem wA {lo:Int}{n:Nat}:Wk K W (Gz lo n) (RF.dZ lo n) (λ_=>true) (λ_ _ _=>True) where
 go:=λi M S H c _ hi=>by rw[rj] at hi;exact⟨hi,λx H' y=>⟨y.1,_,zR hi,by rw[y.2];exact .int _⟩⟩
 stop:=λi M S H c _ hi=>by rw[rj] at hi;exact hi
 keep:=λ_ _ _ _ _ _ _ _ _ _=>trivial
theorem CV {n i:Nat}(h:i<n+1):(RF.gG n)[i]?=some (.int ((n:Int)-(i:Int))):=by unfold RF.gG;rw[List.getElem?_map,List.getElem?_range h];rfl
theorem tY {n:Nat}:(RF.gG n).length=n+1:=by unfold RF.gG;simp
theorem IT {n:Nat}:Wk K W (Lv n) (RF.gG n) (λ_=>true) (λ_ _ _=>True) where
 go:=λi M S H c _ hi=>by rw[tY] at hi;exact⟨hi,λx H' y=>⟨y.1,_,CV hi,by rw[y.2];exact .int _⟩⟩
 stop:=λi M S H c _ hi=>by rw[tY] at hi;exact hi
 keep:=λ_ _ _ _ _ _ _ _ _ _=>trivial
theorem uj {e:Expr}(h:RF.qO e=true):∃j p q,e = .UnaryOp .USub (.Constant (.int 1) j p) q:=by
 unfold RF.qO at h;split at h
 .exact⟨_,_,_,rfl⟩
 .cases h
theorem KD {z:Str}:Wk K W (Cw z) (z.cps.toList.map λc=>.str ⟨#[c]⟩) (λ_=>true) (λ_ _ _=>True) where
 go:=λi M S H c _ hi=>by
  have hi:i<z.cps.size:=by simpa using hi
  refine⟨hi,λx H' y=>⟨y.1,?_⟩⟩;obtain⟨_,cc,e1,rfl⟩:=y;refine⟨.str ⟨#[cc]⟩,?_,.str _⟩;rw[List.getElem?_map,Array.getElem?_toList,e1];rfl
 stop:=λi M S H c _ hi=>by show z.cps.size<=i;simpa using hi
 keep:=λ_ _ _ _ _ _ _ _ _ _=>trivial
theorem y4 {a:Addr}{od:Obj}{af:List (D×D)}{ts:List (List Key×V)}(hk:af.length=ts.length)(hx:∀(i:Nat) q,ts[i]?=some q->(af.map (·.1))[i]?=some (ofKeys q.1)):
 Wk K W (Lr a od ts) (af.map (·.1)) (λ_=>true) (λM S H=>H a=some (.bQ od (.dT ts))) where
 go:=λi M S H c h hi=>by
  have hi:i<ts.length:=by rw[<-hk];simpa using hi
  refine⟨⟨h,hi⟩,λx H' y=>⟨y.1,?_⟩⟩;obtain⟨_,b,p,e1,rfl,e2⟩:=y;exact⟨ofKeys p.1,hx i p e1,.tup e2 (C9 M H p.1)⟩
 stop:=λi M S H c h hi=>⟨h,by rw[<-hk];simpa using hi⟩
 keep:=λM S H M' S' H' h u c _=>u.da _ _ _ h
theorem Sm.set {K:Fg}{M:List Addr}{S:ae}{H:Hp}{ρ:RF.Env}{σ:St}(s:Sm K W M S H ρ σ){i:Nat}{d:D}{v:V}(r:au M H d v):Sm K W M S H (ρ.set i (some d)) (σ.set i (some v)):=
 ⟨s.con,s.env.set r (Nat.le_of_eq s.len),by simp[s.len]⟩
def il:List Nat->ux
 | []=>MP
 | i::is=>GH (ow i) (il is)
theorem rC {K:Fg}{M:List Addr}{S:ae}{H:Hp}{Q:St->Hp->Prop}:∀{is:List Nat} {ds:List D} {vs:List V} {ρ ρ':RF.Env} {σ:St},RF.ic is ds ρ=some ρ'->ay M H ds vs->Sm K W M S H ρ σ->(∀σ',Sm K W M S H ρ' σ'->Q σ' H)->il is vs σ H Q
 | [],[],_,_,_,_,h,r,s,q=>by cases h;cases r;exact⟨rfl,q _ s⟩
 | i::is,d::ds,_,_,_,_,h,r,s,q=>by
  cases r with
  | cons r1 r2=>exact⟨_,_,rfl,rC h r2 (s.set r1) q⟩
 | [],_::_,_,_,_,_,h,_,_,_=>by cases h
 | _::_,[],_,_,_,_,h,_,_,_=>by cases h
theorem lP:∀{is:List Nat} {ds:List D} {ρ ρ':RF.Env},RF.ic is ds ρ=some ρ'->ds.length=is.length
 | [],[],_,_,_=>rfl
 | i::is,d::ds,ρ,ρ',h=>by have:=lP (is:=is) (ds:=ds) (ρ:=ρ.set i (some d)) (ρ':=ρ') h;simp[this]
 | [],_::_,_,_,h=>by cases h
 | _::_,[],_,_,h=>by cases h
theorem Er {κ:Type}[DecidableEq κ]{f:κ->D}(hf:∀a b,f a=f b->a=b){M:List Addr}{H:Hp}{af:List (D×D)}{ks:List (κ×V)}(h:Paired (cm f M H) af ks){q:κ}{d:D}{v:V}(r:au M H d v):
 Paired (cm f M H) (af.map λkv=>if kv.1=f q then (kv.1,d) else kv) (ks.map λkv=>if kv.1=q then (kv.1,v) else kv)/\(af.any λkv=>decide (kv.1=f q))=ks.any λkv=>decide (kv.1=q):=by
 induction h with
 | nil=>exact⟨.nil,rfl⟩
 | @cons p s af ks hr t ih=>
  rw[List.map_cons,List.map_cons,List.any_cons,List.any_cons,ih.2]
  by_cases e:s.1=q
  .have e':p.1=f q:=by rw[hr.1,e]
   rw[if_pos e',if_pos e];exact⟨.cons ⟨hr.1,r⟩ ih.1,by simp[e,e']⟩
  .have e':¬p.1=f q:=λz=>e (hf _ _ (hr.1.symm.trans z));rw[if_neg e',if_neg e];exact⟨.cons hr ih.1,by simp[e,e']⟩
theorem rm {α β:Type}{F:α->β->Prop}:∀{l₁ l₂:List α} {m₁ m₂:List β},Paired F l₁ m₁->Paired F l₂ m₂->Paired F (l₁++l₂) (m₁++m₂)
 | _,_,_,_,.nil,s=>s
 | _,_,_,_,.cons r t,s=>.cons r (rm t s)
theorem qt {κ:Type}[DecidableEq κ]{f:κ->D}(hf:∀a b,f a=f b->a=b){M:List Addr}{H:Hp}{af:List (D×D)}{ks:List (κ×V)}(h:Paired (cm f M H) af ks){q:κ}{d:D}{v:V}(r:au M H d v):Paired (cm f M H) (RF.putD af (f q) d) (putK ks q v):=by
 obtain⟨h1,h2⟩:=Er hf h (q:=q) r;unfold RF.putD putK;rw[h2];split
 .exact h1
 .exact rm h (.cons ⟨rfl,r⟩ .nil)
end
section
variable {X:Cx}{W:bj}{Γ:RF.Gm}
theorem c0 {e:Expr}{r:List Expr}{is:List Nat}(h:RF.slots Γ (e::r)=some is):∃x p i js,e = .Name x p/\RF.slot Γ x=some i/\RF.slots Γ r=some js/\i∉js/\is=i::js:=by
 unfold RF.slots at h;split at h
 .rename_i e';cases e'
 .rename_i x p r' e';cases e';split at h
  .rename_i i js h1 h2;split at h
   .cases h
   .rename_i hc;cases h;exact⟨x,p,i,js,rfl,h1,h2,λz=>hc (by simpa using z),rfl⟩
  .cases h
 .cases h
theorem fY {env:Env}:∀{ts:List Expr} {is:List Nat},RF.slots Γ ts=some is->(assignEach ts env).length=ts.length/\(assignEach ts env).findIdx? (·.1)=none/\is.length=ts.length
 | [],is,h=>by cases h;exact⟨rfl,rfl,rfl⟩
 | e::r,is,h=>by
  obtain⟨x,p,i,js,rfl,h1,h2,_,rfl⟩:=c0 h;obtain⟨a1,a2,a3⟩:=fY (env:=env) h2;refine⟨?_,?_,by simp[a3]⟩
  .show (assignEach r env).length+1=_;rw[a1];rfl
  .show List.findIdx? (·.1) ((false,assign (.Name x p) env)::assignEach r env)=none;rw[List.findIdx?_cons];simp[a2]
def lW (X:Cx)(W:bj)(is:List Nat)(one:Bool)(g:TG):Prop:=∀(M:List Addr) (S:ae) (H:Hp) (ρ ρ1:RF.Env) (σ:St) (d:D) (x:V) (Q:St->Hp->Prop),Sm X.K W M S H ρ σ->au M H d x->RF.oS is one d ρ=some ρ1->(∀σ',Sm X.K W M S H ρ1 σ'->Q σ' H)->g x σ H Q
theorem yW {i:Nat}:lW X W [i] true (ow i):=λM S H ρ ρ1 σ d x Q s r h q=>by cases h;exact q _ (s.set r)
theorem BZ {is:List Nat}{n:Nat}(hn:is.length=n):lW X W is false (E8 X.K n (il is)):=λM S H ρ ρ1 σ d x Q s r h q=>by
 unfold RF.oS at h;simp only[Bool.false_eq_true,if_false] at h;split at h
 .obtain⟨p,vs,rfl,hp,hv⟩:=cD r;exact⟨p,vs,rfl,cz.of hp,by rw[<-hv.length,lP h,hn],rC h hv s q⟩
 .cases h
end
def BI {α β:Type}(ra:List Addr->Hp->α->β->Prop):Prop:=∀M H M' H' a b,ra M H a b->Up M H M' H'->ra M' H' a b
section
variable {K:Fg}{W:bj}{M M1:List Addr}{S:ae}{H H1:Hp}{ρ:RF.Env}{σ:St}{E:XK}{α β:Type}{ra:List Addr->Hp->α->β->Prop}
def jb (K:Fg)(W:bj)(ra:List Addr->Hp->α->β->Prop)(M:List Addr)(H:Hp)(ρ:RF.Env)(r:RF.R α)(Q:β->St->Hp->Prop):Prop:=match r with
 | .ok a S'=>∀M' H' σ' b,Sm K W M' S' H' ρ σ'->Up M H M' H'->ra M' H' a b->Q b σ' H'
 | _=>False
theorem jb.up {r:RF.R α}{Q:β->St->Hp->Prop}(h:jb K W ra M H ρ r Q)(u:Up M H M1 H1):jb K W ra M1 H1 ρ r Q:=by
 cases r with
 | ok a S'=>exact λM' H' σ' b s u'=>h M' H' σ' b s (u.trans u')
 | _=>exact h
def vK (K:Fg)(W:bj)(ra:List Addr->Hp->α->β->Prop)(b:α->RF.C α):TB β:=λa' σ H Q=>∃M ρ S a,Sm K W M S H ρ σ/\ra M H a a'/\jb K W ra M H ρ (b a ρ S) Q
theorem jb.p4 {r:RF.R α}{Q:β->Hp->Prop}(h:av K W ra E M H (r) Q):jb K W ra M H ρ r λb _ H'=>Q b H':=by
 cases r with
 | ok a S'=>exact λM' H' σ' b s u r=>h M' H' b s.con u r
 | bad=>exact h.elim
theorem jb.guard {b:Bool}{r:RF.R α}{Q:β->St->Hp->Prop}(h:jb K W ra M H ρ (RF.aB b r) Q):b=true/\jb K W ra M H ρ r Q:=by
 unfold RF.aB at h;cases b with
 | true=>exact⟨rfl,h⟩
 | false=>exact h.elim
theorem tM:∀{is:List Nat} {ds:List D} {ρ ρ1:RF.Env},RF.ic is ds ρ=some ρ1->ρ1.length=ρ.length/\∀j,j∉is->ρ1[j]?=ρ[j]?
 | [],[],ρ,ρ1,h=>by cases h;exact⟨rfl,λ_ _=>rfl⟩
 | i::is,d::ds,ρ,ρ1,h=>by obtain⟨h1,h2⟩:=tM (is:=is) (ds:=ds) (ρ:=ρ.set i (some d)) (ρ1:=ρ1) h;refine⟨by rw[h1,List.length_set],λj hj=>?_⟩;rw[h2 j λz=>hj (List.mem_cons_of_mem _ z),List.getElem?_set_ne (λz=>hj (by rw[<-z];exact List.mem_cons_self))]
 | [],_::_,_,_,h=>by cases h
 | _::_,[],_,_,h=>by cases h
theorem ES {is:List Nat}{one:Bool}{d:D}{ρ ρ1:RF.Env}(h:RF.oS is one d ρ=some ρ1):ρ1.length=ρ.length/\∀j,j∉is->ρ1[j]?=ρ[j]?:=by
 unfold RF.oS at h;split at h
 .split at h
  .cases h;rename_i i;exact⟨List.length_set,λj hj=>List.getElem?_set_ne (λz=>hj (by rw[<-z];exact List.mem_cons_self))⟩
  .cases h
 .split at h
  .exact tM h
  .cases h
theorem Sm.back {is:List Nat}{one:Bool}{d:D}{ρ1:RF.Env}(s:Sm K W M S H ρ1 σ)(h:RF.oS is one d ρ=some ρ1)(hb:RF.blank is ρ=true):Sm K W M S H ρ σ:=by
 obtain⟨h1,h2⟩:=ES h;refine⟨s.con,λj x e=>s.env j x ?_,h1.symm.trans s.len⟩;rw[h2 j λhj=>?_]
 .exact e
 .have:=List.all_eq_true.mp hb j hj;rw[e] at this;cases this
theorem qe {chk:ae->Bool}{is:List Nat}{one:Bool}{t:RF.C Bool}{b:α->RF.C α}{l:List D}{a:α}{Q:β->St->Hp->Prop}(g:jb K W ra M H ρ (RF.bF chk is one t b ρ l a S) Q):chk S=true:=by
 cases h:chk S with
 | true=>rfl
 | false=>
  exfalso;cases l with
  | nil=>unfold RF.bF at g;rw[h] at g;exact g
  | cons x xs=>unfold RF.bF at g;rw[h] at g;exact g
theorem nP {X:Cx}{J:It}{items:List D}{chk:ae->Bool}{ok:List Addr->ae->Hp->Prop}(wk:Wk X.K W J items chk ok){is:List Nat}{one:Bool}{gt:TG}(hg:lW X W is one gt){t:RF.C Bool}{b:α->RF.C α}(pN:BI ra)(pO:RF.blank is ρ=true)
 {a:α} {a':β} {R:β->St->Hp->Prop} (sm:Sm X.K W M S H ρ σ) (aw:ok M S H) (r0:ra M H a a') (g:jb X.K W ra M H ρ (RF.bF chk is one t b ρ items a S) R):yF J gt (tT X.K W E0 t) (vK X.K W ra b) R a' σ H:=by
 refine⟨λi m a' σ H=>m=items.length-i/\i<=items.length/\∃M S a,Sm X.K W M S H ρ σ/\ok M S H/\ra M H a a'/\jb X.K W ra M H ρ (RF.bF chk is one t b ρ (items.drop i) a S) R,⟨items.length,by simp,Nat.zero_le _,M,S,a,sm,aw,r0,by rw[List.drop_zero];exact g⟩,?_⟩;rintro i m a' σ H ⟨rfl,hi,M,S,a,sm,aw,r0,g⟩;have hc:=qe g;rcases Nat.lt_or_ge i items.length with de | zw
 .obtain⟨go,yl⟩:=wk.go i M S H sm.con aw de;refine .inr ⟨go,_,λa' σ' H' z=>⟨items.length-(i+1),by omega,z⟩,λx H' y=>?_⟩;obtain⟨rfl,d,hd,rd⟩:=yl x H' y;have ed:items.drop i=d::items.drop (i+1):=by
   rw[List.drop_eq_getElem_cons de]
   congr 1
   rw[List.getElem?_eq_getElem de] at hd;exact Option.some.inj hd
  rw[ed] at g;unfold RF.bF at g;rw[if_pos hc] at g;split at g
  .rename_i ρ1 ht;refine⟨Ts.refl _,hg M S H' ρ ρ1 σ d x _ sm rd ht λσ1 s1=>⟨Ts.refl _,?_⟩⟩;cases ev:t ρ1 S with
   | bad=>rw[ev] at g;exact g.elim
   | ok c S1=>
    rw[ev,RF.R.bY] at g;refine ee s1 ev λM1 H1 u s2 u1 r1=>?_;subst r1;refine⟨u1.dS,?_⟩;cases c with
    | false=>rw[if_neg (by decide)] at g ⊢;have g1:=g.up u1;exact⟨rfl,de,M1,S1,a,s2.back ht pO,wk.keep M S H' M1 S1 H1 aw u1 s2.con (qe g1),pN _ _ _ _ _ _ r0 u1,g1⟩
    | true=>
     rw[if_pos rfl] at g ⊢;refine⟨M1,ρ1,S1,a,s2,pN _ _ _ _ _ _ r0 u1,?_⟩;cases ev2:b a ρ1 S1 with
     | bad=>rw[ev2] at g;exact g.elim
     | ok a1 S2=>rw[ev2,RF.R.bY] at g;intro M2 H2 σ2 b2 s3 u2 r2;have g2:=g.up (u1.trans u2);exact⟨rfl,de,M2,S2,a1,s3.back ht pO,wk.keep M S H' M2 S2 H2 aw (u1.trans u2) s3.con (qe g2),r2,g2⟩
  .exact g.elim
 .have ei:i=items.length:=by omega
  subst ei;refine .inl ⟨wk.stop _ M S H sm.con aw (Nat.le_refl _),?_⟩;rw[List.drop_length] at g;unfold RF.bF at g;rw[if_pos hc] at g;exact g M H σ a' sm (Up.refl _ _) r0
theorem PB.imp {X:Cx}{D:Addr}{ob:β->HO}{m:Sem Unit}{t t':TB β}(h:PB X D ob m t)(k:∀a σ H Q,t' a σ H Q->t a σ H Q):PB X D ob m t':=λpins s σ H a Q I A q=>h pins s σ H a Q I A (k _ _ _ _ q)
theorem Jn {c:RF.C D}:∀a σ H Q,vK K W ay (RF.bL c) a σ H Q->Gu (tE K W E0 c) a σ H Q:=by
 rintro a' σ H Q ⟨M,ρ,S,a,sm,ra,g⟩;obtain⟨hz,g⟩:=jb.guard g;cases ev:c ρ S with
 | bad=>rw[ev] at g;exact g.elim
 | ok y S1=>rw[ev,RF.R.bY] at g;refine ee sm ev λM1 H1 u s1 u1 r1=>⟨by rw[<-ra.length];exact of_decide_eq_true hz,u1.dS,?_⟩;exact g M1 H1 σ _ s1 u1 ((ra.up u1).append (.cons r1 .nil))
end
end L2
namespace L2
open PySem PySem.Spec PyProof.Rows
open RF (D O ae Tab)
structure dD (kt:RF.d0)(T:Tab)(cl:RF.Calls)(k:Nat):Prop where
 e:∀{X:Cx} {W:bj} {Γ:RF.Gm} {E:XK},W.T=T->bV X W Γ E cl k->∀e,PE X e (tE X.K W E (kt.e Γ e))
 t:∀{X:Cx} {W:bj} {Γ:RF.Gm} {E:XK},W.T=T->bV X W Γ E cl k->∀e,PT X e (tT X.K W E (kt.t Γ e))
 w:∀{X:Cx} {W:bj} {Γ:RF.Gm} {E:XK},W.T=T->bV X W Γ E cl k->∀op vs p,PW X (.BoolOp op vs p) (tT X.K W E (kt.t Γ (.BoolOp op vs p)))
 c1:∀{X:Cx} {W:bj} {Γ:RF.Gm} {E:XK},W.T=T->bV X W Γ E cl k->∀a op b p,PT X (.Compare a [op] [b] p) (tT X.K W E (RF.aq (kt.e Γ (.Compare a [op] [b] p))))
 c2:∀{X:Cx} {W:bj} {Γ:RF.Gm} {E:XK},W.T=T->bV X W Γ E cl k->∀a o1 o2 b c p,PT X (.Compare a [o1,o2] [b,c] p) (tT X.K W E (RF.aq (kt.e Γ (.Compare a [o1,o2] [b,c] p))))
theorem xX (sc:Scope)(env:Env):nF sc (relabel sc env):=by
 intro x;show (sc.names.map λ(n,k)=>if (k == .free&&env.scope.kind == .function&&env.kindOf n==some .cell) then (n,.cell) else (n,k)).lookup x=sc.names.lookup x\/_/\(sc.names.map λ(n,k)=>if (k == .free&&env.scope.kind == .function&&env.kindOf n==some .cell) then (n,.cell) else (n,k)).lookup x=some .cell;generalize sc.names=l
 induction l with
 | nil=>exact .inl rfl
 | cons p r ih=>
  obtain⟨n,kk⟩:=p;simp only[List.map_cons]
  by_cases hd:(kk==NameKind.free&&env.scope.kind == .function&&env.kindOf n==some .cell)=true
  .rw[if_pos hd];simp only[List.lookup_cons];cases hx:x==n with
   | true=>simp only[Bool.and_eq_true] at hd;exact .inr ⟨by rw[eq_of_beq hd.1.1],rfl⟩
   | false=>exact ih
  .rw[if_neg hd];simp only[List.lookup_cons];cases hx:x==n with
   | true=>exact .inl rfl
   | false=>exact ih
theorem i7 {sc o o':Scope}{xs M:List Str}(h:RF.i6 sc o xs M=true)(k:nF o o'):ou sc o' xs M=true:=by
 unfold RF.i6 at h;unfold ou;simp only[Bool.and_eq_true] at h ⊢;refine⟨⟨h.1.1,?_⟩,h.2⟩;have h5:=h.1.2;rw[List.all_eq_true] at h5 ⊢;intro p hp;have:=h5 p hp;rw[Bool.or_eq_true] at this ⊢;rcases this with z | z
 .exact .inl z
 .refine .inr ?_;rcases k p.1 with e | ⟨e1,e2⟩
  .rw[e];exact z
  .rw[e2];rfl
theorem lV {l:List Str}(h:RF.jU l=true):l.Nodup:=by
 induction l with
 | nil=>exact List.nodup_nil
 | cons x xs ih=>unfold RF.jU at h;rw[Bool.and_eq_true] at h;refine List.nodup_cons.mpr ⟨λhm=>?_,ih h.2⟩;have:(xs.any λy=>decide (y=x))=true:=List.any_eq_true.mpr ⟨x,hm,decide_eq_true rfl⟩;rw[this] at h;cases h.1
theorem E9 {sc:Scope}{xs N:List Str}(h:RF.eD sc xs N=true):∀(j:Nat) (y:Str),(RF.cj xs N)[j]?=some y->(∃p∈sc.names,p.1=y)->N[j]?=some y:=by
 intro j y hj ⟨p,hp,e⟩;unfold RF.eD at h;rw[Bool.and_eq_true] at h;unfold RF.cj at hj;rw[List.getElem?_map] at hj;obtain⟨z,h1,h2⟩:=Option.map_eq_some_iff.mp hj;split at h2
 .rename_i hc;exfalso;have hz:z∈xs:=by simpa using hc
  have:(sc.names.any λp=>xs.any λx=>decide (p.1=x++("?":Str)))=true:=List.any_eq_true.mpr ⟨p,hp,List.any_eq_true.mpr ⟨z,hz,decide_eq_true (e.trans h2.symm)⟩⟩;rw[this] at h;cases h.2
 .rw[h1,h2]
section
variable {X:Cx}{W:bj}{Γ:RF.Gm}{E:XK}{cl:RF.Calls}{k:Nat}{kt:RF.d0}{a b c e:Expr}{ca cb cc:RF.C D}{pos:Pos}
theorem bV.GZ (C:bV X W Γ E cl k){sc:Scope}{xs:List Str}(hs:RF.eD sc xs Γ.N=true)(Ca:Addr)(s:Sh)(H:Hp)(fp:List Addr):bV (cS X sc xs (RF.cj xs Γ.N) Ca s H fp) W ⟨xs++RF.cj xs Γ.N,sc,false⟩ E0 cl k where
 N:=rfl
 nd:=by unfold RF.eD at hs;rw[Bool.and_eq_true] at hs;exact lV hs.1
 jg:=xX sc X.env
 calm:=C.calm
 room:=C.room
 pass:=zI
 top:=C.top
theorem Cn.bQ {K:Fg}{M:List Addr}{S:ae}{H:Hp}(c:Cn K W M S H){n:Nat}{a:Addr}{af:List (D×D)}{ts:List (List Key×V)}{od:Obj}(hS:S[n]?=some (.aG af))(hM:M[n]?=some a)(h1:H a=some (.dT ts))(h2:Paired (cm ofKeys M H) af ts):
 Cn K W M (S.set n (.dC af)) (upd H a (.bQ od (.dT ts))):=by
 have nt:c7 (H a):=dN h1 rfl;exact c.put hS hM rfl rfl nt ⟨od,ts,az,Paired.up h2 (aO nt)⟩
theorem Cn.wH {K:Fg}{M:List Addr}{S:ae}{H:Hp}(c:Cn K W M S H){n:Nat}{a:Addr}{af:List (D×D)}{ts:List (List Key×V)}{od:Obj}(hS:S[n]?=some (.dC af))(hM:M[n]?=some a)(h1:H a=some (.bQ od (.dT ts))):
 Cn K W M (S.set n (.aG af)) (upd H a (.dT ts)):=by
 have nt:vf (H a):=λxs z=>by rw[h1] at z;cases z
 obtain⟨o,ts',g1,g2⟩:=c.at_ n _ a hS hM;rw[h1] at g1;cases g1;exact c.LV hS hM rfl rfl nt (λob vs z=>by rw[h1] at z;cases z) (.inr ⟨ts,az,Paired.d7 g2 (jG nt)⟩)
theorem y9 {M M1:List Addr}{H H1:Hp}{a:Addr}{od:Obj}{ts:List (List Key×V)}{o:HO}(h0:H a=some (.dT ts))(u:Up M (upd H a (.bQ od (.dT ts))) M1 H1):Up M H M1 (upd H1 a (.dT ts)):=by
 refine⟨⟨u.pre,λb xs h=>?_⟩,λb ob w h=>?_⟩
 .have nb:b≠a:=λz=>by subst z;rw[h0] at h;cases h
  rw[ax nb];exact u.dS b xs (by rw[ax nb];exact h)
 .have nb:b≠a:=λz=>by subst z;rw[h0] at h;cases h
  rw[ax nb];exact u.da b ob w (by rw[ax nb];exact h)
theorem qd {tg l:Expr}{tl:TE}(hl:PE X l tl):PI X tg l (λσ H R=>tl σ H λx H1=>∃a,x = .ref a/\(∃xs,cB X.K H1 a xs)/\((∀xs,cB X.K H1 a xs->xs.length<=sizeLine)->R (yi X.K a) H1)):=by
 intro pins s σ H R I h;refine aK (hl pins s σ H _ I h) λv s1 ⟨x,H1,I1,r1,q1⟩=>?_;obtain⟨a,e,⟨xs,hq⟩,q⟩:=q1;subst e;cases r1;obtain⟨ai,rv,p,hz⟩:=I1.list hq;refine wpAny_pyIter_list p.isList ?_;refine⟨s1.heap.objs.size,[s1.heap.objs.size],_,_,H1,rfl,I1.kept (t':=s1.toks) λb o e=>Heap.get?_push_of_some _ e,Dr a _,⟨_,Heap.get?_push_size _ rfl,rfl,rfl⟩,λb hb=>?_,q λys hy=>by rw[I1.pV hy hq];exact hz⟩;have e:b=s1.heap.objs.size:=by simpa using hb
 subst e;exact I1.me (Nat.le_refl _) (I1.aw.fresh (Nat.le_refl _))
theorem HS {tg l:Expr}{tl:TE}(hl:PE X l tl):PI X tg l (λσ H R=>tl σ H λx H1=>∃a,x = .ref a/\(∃xs,cz X.K H1 a xs)/\((∀xs,cz X.K H1 a xs->xs.length<=sizeLine)->R (Lf X.K a) H1)):=by
 intro pins s σ H R I h;refine aK (hl pins s σ H _ I h) λv s1 ⟨x,H1,I1,r1,q1⟩=>?_;obtain⟨a,e,⟨xs,hq⟩,q⟩:=q1;subst e;cases r1;obtain⟨ai,rv,p,hz⟩:=I1.tuple hq;refine wpAny_pyIter_tuple (show s1.heap.IsTuple a ai.toArray from p) ?_;refine⟨s1.heap.objs.size,[s1.heap.objs.size],_,_,H1,rfl,I1.kept (t':=s1.toks) λb o e=>Heap.get?_push_of_some _ e,A5 a _,⟨_,Heap.get?_push_size _ rfl,rfl,rfl⟩,λb hb=>?_,q λys hy=>by rw[I1.uh hy hq];exact hz⟩;have e:b=s1.heap.objs.size:=by simpa using hb
 subst e;exact I1.me (Nat.le_refl _) (I1.aw.fresh (Nat.le_refl _))
theorem wo {tg l:Expr}{tl:TE}(hl:PE X l tl):PI X tg l (λσ H R=>tl σ H λx H1=>∃d af H2,x = .ref d/\(H2=H1\/kh H1 d H2)/\H2 d=some (.dT af)/\∀od,af.length<=sizeLine->R (Lr d od af) (upd H2 d (.bQ od (.dT af)))):=by
 intro pins s σ H R I h;refine aK (hl pins s σ H _ I h) λv s1 ⟨x,H0,I0,r1,q1⟩=>?_;obtain⟨d,af,H1,rfl,hr,e,q⟩:=q1;cases r1;have I1:Inv X pins σ H1 s1:=by
  rcases hr with rfl | hr
  .exact I0
  .exact I0.ret hr
 obtain⟨od,es,ep,h1,h2,h3,h4,h5,h6,h7⟩:=lq I1 (.inl e);refine uk h4 h1 h2 h3 ?_;have I2:Inv X pins σ H1 { s1 with heap:=s1.heap.push { cls:=.type "dict_keyiterator",data:=.fields #[.ref d,.int 0 0,.int es.size 0,.int ep 0] } }:=I1.kept (t':=s1.toks) λb o e=>Heap.get?_push_of_some _ e;have nd:s1.heap.objs.size≠d:=λz=>absurd (Heap.lt_size h1) (by rw[<-z];exact Nat.lt_irrefl _);refine⟨s1.heap.objs.size,[s1.heap.objs.size],_,_,_,rfl,I2.freeze e (Heap.get?_push_of_some _ h1),CM _ h3,⟨_,Heap.get?_push_size _ rfl,rfl,rfl⟩,λb hb=>?_,q od h6⟩;have z:b=s1.heap.objs.size:=by simpa using hb
 subst z;exact I1.me (Nat.le_refl _) (by rw[ax nd];exact I1.aw.fresh (Nat.le_refl _))
theorem keysAt {M:List Addr}{H:Hp}{af:List (D×D)}{ts:List (List Key×V)}(h:Paired (cm ofKeys M H) af ts):∀(i:Nat) q,ts[i]?=some q->(af.map (·.1))[i]?=some (ofKeys q.1):=by
 induction h with
 | nil=>intro i q e;simp at e
 | @cons p r af ts hr t ih=>
  intro i q e;cases i with
  | zero=>
   have e:r=q:=by simpa using e
   subst e;simp[hr.1]
  | succ i=>simpa using ih i q (by simpa using e)
theorem mB {env:Env}:∀{names:List (Str×NameKind)} {x:Str},names.lookup x=some .local->(names.map λ(n,k)=>if (k == .free&&env.scope.kind == .function&&env.kindOf n==some .cell) then (n,.cell) else (n,k)).lookup x=some .local
 | [],x,h=>h
 | (n,kk)::r,x,h=>by
  simp only[List.map_cons];rw[List.lookup_cons] at h;cases hx:x==n with
  | true=>rw[hx] at h;cases h;show List.lookup x ((n,NameKind.local)::_)=_;rw[List.lookup_cons,hx]
  | false=>rw[hx] at h;have ih:=mB (env:=env) h;split<;>(rw[List.lookup_cons,hx];exact ih)
theorem wW (C:bV X W Γ E cl k){sc:Scope}{xs:List Str}(hs:RF.eD sc xs Γ.N=true)(hc:RF.i6 sc Γ.sc xs (RF.cj xs Γ.N)=true)(Ca:Addr)(s:Sh)(H:Hp)(fp:List Addr){x:Str}{i:Nat}{px:Pos}(h:RF.slot ⟨xs++RF.cj xs Γ.N,sc,false⟩ x=some i):PG (cS X sc xs (RF.cj xs Γ.N) Ca s H fp) (.Name x px) (ow i):=by
 have B:=C.GZ hs Ca s H fp;have ok:=jy.of (i7 hc C.jg);unfold RF.slot at h;split at h
 .rename_i hk;have hl:sc.names.lookup x=some .local:=by
   rw[Bool.or_eq_true] at hk;rcases hk with z | z
   .exact eq_of_beq z
   .have z:sc.names.lookup x=some .cell:=eq_of_beq z;exfalso;have:∀{l:List (Str×NameKind)},l.lookup x=some .cell->(∀p∈l,p.2≠NameKind.cell)->False:=λ{l}=>by
     induction l with
     | nil=>intro h;cases h
     | cons p r ih=>
      intro h q;obtain⟨n,kk⟩:=p;rw[List.lookup_cons] at h;cases hx:x==n with
      | true=>rw[hx] at h;cases h;exact q _ List.mem_cons_self rfl
      | false=>rw[hx] at h;exact ih h λp hp=>q p (List.mem_cons_of_mem _ hp)
    exact this z ok.lC
  have xG:(relabel sc X.env).names.lookup x=some .local:=mB hl;exact oB B.nd (by rw[B.N];exact cK h) (.inl xG) (.inr xG)
 .cases h
theorem tW (C:bV X W Γ E cl k){sc:Scope}{xs:List Str}(hs:RF.eD sc xs Γ.N=true)(hc:RF.i6 sc Γ.sc xs (RF.cj xs Γ.N)=true)(Ca:Addr)(s:Sh)(H:Hp)(fp:List Addr):∀{ts:List Expr} {is:List Nat},RF.slots ⟨xs++RF.cj xs Γ.N,sc,false⟩ ts=some is->yN (cS X sc xs (RF.cj xs Γ.N) Ca s H fp) ts (il is)
 | [],is,h=>by cases h;exact yD
 | e::r,is,h=>by obtain⟨x,p,i,js,rfl,h1,h2,_,rfl⟩:=c0 h;exact wy (wW C hs hc Ca s H fp h1) (tW C hs hc Ca s H fp h2) rfl
theorem Ms (C:bV X W Γ E cl k){sc:Scope}{xs:List Str}(hs:RF.eD sc xs Γ.N=true)(hc:RF.i6 sc Γ.sc xs (RF.cj xs Γ.N)=true){tg:Expr}{is:List Nat}{one:Bool}(h:RF.jD ⟨xs++RF.cj xs Γ.N,sc,false⟩ tg=some (is,one)):
 ∃gt:TG,lW X W is one gt/\∀Ca s H fp,PG (cS X sc xs (RF.cj xs Γ.N) Ca s H fp) tg gt:=by
 unfold RF.jD at h;split at h
 .obtain⟨i,h1,h2⟩:=Option.map_eq_some_iff.mp h;cases h2;exact⟨_,yW,λCa s H fp=>wW C hs hc Ca s H fp h1⟩
 .rename_i ts kk pt;obtain⟨js,h1,h2⟩:=Option.map_eq_some_iff.mp h;cases h2;refine⟨E8 X.K ts.length (il is),?_,λCa s H fp=>?_⟩
  .obtain⟨_,_,a3⟩:=fY (env:=X.env) h1;exact BZ a3
  .obtain⟨a1,a2,a3⟩:=fY (env:=(cS X sc xs (RF.cj xs Γ.N) Ca s H fp).env) h1;exact a1 ▸ rL C.calm (tW C hs hc Ca s H fp h1) rfl a2
 .cases h
theorem HY (C:bV X W Γ E cl k)(KO:dD kt W.T cl k){sc:Scope}{xs:List Str}(hs:RF.eD sc xs Γ.N=true){ifs:List Expr}{t:RF.C Bool}(h:RF.Ay kt ⟨xs++RF.cj xs Γ.N,sc,false⟩ ifs=some t)(Ca:Addr)(s:Sh)(H:Hp)(fp:List Addr):PF (cS X sc xs (RF.cj xs Γ.N) Ca s H fp) ifs (tT X.K W E0 t):=by
 unfold RF.Ay at h;split at h
 .cases h;intro pins s σ H Q I ⟨M,ρ,S,sm,g⟩;exact Mf pins s σ H Q I (av.now g sm.con rfl)
 .cases h;exact Ku (KO.t rfl (C.GZ hs Ca s H fp) _)
 .cases h
def vi (tg:Expr)(one:Bool):Prop:=match one with
 | true=>∃y p,tg = .Name y p
 | false=>∃ts k p,tg = .Tuple ts k p
theorem EH {Γ:RF.Gm}{tg:Expr}{is:List Nat}{one:Bool}(h:RF.jD Γ tg=some (is,one)):vi tg one:=by
 unfold RF.jD at h;split at h
 .obtain⟨i,_,h2⟩:=Option.map_eq_some_iff.mp h;cases h2;exact⟨_,_,rfl⟩
 .obtain⟨i,_,h2⟩:=Option.map_eq_some_iff.mp h;cases h2;exact⟨_,_,_,rfl⟩
 .cases h
def rT {β:Type}(X:Cx)(tg it:Expr)(n:Nat)(σ:St)(H:Hp)(gt:TG)(tt:TT)(tb:TB β)(a0:β)(Q R:β->Hp->Prop):Prop:=
 (∃wi,PI X tg it wi/\wi σ H λJ H1=>yF J gt tt tb (λa _ H2=>Q a H2) a0 (List.replicate n none++σ) H1) \/
 ∃wi,PI X tg it wi/\wi σ H λJ H1=>yF J gt tt tb (λa _ H2=>R a H2) a0 (List.replicate n none++σ) H1
def z9 {β:Type}(X:Cx)(Q R:β->Hp->Prop):Prop:=∀ys H2 a o ts,H2 a=some (.bQ o (.dT ts))->(∀o u,X.H₀ a≠some (.bQ o u))->Q ys (upd H2 a (.dT ts))->R ys H2
theorem Sm.inner {K:Fg}{M:List Addr}{S:ae}{H:Hp}{ρ:RF.Env}{σ:St}(s:Sm K W M S H ρ σ)(n:Nat):Sm K W M S H (RF.inner n ρ) (List.replicate n none++σ):=by
 refine⟨s.con,λi d e=>?_,by unfold RF.inner;simp[s.len]⟩;unfold RF.inner at e;rcases Nat.lt_or_ge i n with hi | hi
 .rw[List.getElem?_append_left (by simpa using hi),List.getElem?_replicate,if_pos hi] at e;cases e
 .rw[List.getElem?_append_right (by simpa using hi),List.length_replicate] at e;obtain⟨v,h1,h2⟩:=s.env _ d e;exact⟨v,by rw[List.getElem?_append_right (by simpa using hi),List.length_replicate];exact h1,h2⟩
section
variable {α β:Type}{ra:List Addr->Hp->α->β->Prop}{is:List Nat}{one:Bool}{gt:TG}{t:RF.C Bool}{bd:α->RF.C α}{a0:α}{b0:β}{Q R:β->Hp->Prop}{n:Nat}{tg it:Expr}{pins:List (Addr×Obj)}{st:Sh}{σ:St}{H:Hp}{M:List Addr}{S:ae}{ρ:RF.Env}
theorem J1 (hT:vi tg one)(hg:lW X W is one gt)(pN:BI ra)(F6:∀M H H' a b,ra M H a b->pj M H M H'->ra M H' a b)(pO:RF.blank is (RF.inner n ρ)=true)(r0:∀M H,ra M H a0 b0){cv:RF.C D}(hl:PE X it (tE X.K W E cv))(I:Inv X pins σ H st)(sm:Sm X.K W M S H ρ σ)(hR:z9 X Q R)
 (g:av X.K W ra E M H ((cv ρ S).bind λx S1=>RF.iS is one t bd (RF.inner n ρ) a0 x S1) Q):rT X tg it n σ H gt (tT X.K W E0 t) (vK X.K W ra bd) b0 Q R:=by
 cases ev:cv ρ S with
 | bad=>rw[ev] at g;exact g.elim
 | ok y S1=>
  rw[ev,RF.R.bY] at g;have lst:∀{m:Nat} {xs:List D},y = .ref m->RF.itemsOf S1 (.ref m)=some xs->av X.K W ra E M H ((RF.bF (RF.e9 (.ref m) xs) is one t bd (RF.inner n ρ) xs a0 S1)) Q->rT X tg it n σ H gt (tT X.K W E0 t) (vK X.K W ra bd) b0 Q R:=λ{m xs} ey hi g0=>by subst ey;refine .inl ⟨_,qd hl,ee sm ev λM1 H1 u s1 u1 r1=>?_⟩;obtain⟨p,rfl,ea⟩:=bw r1;obtain⟨vs,h1,h2⟩:=s1.con.items hi ea;exact⟨p,rfl,⟨vs,h1⟩,λhz=>nP sv hg pN pO (s1.inner n) ⟨ea,hi⟩ (r0 _ _) (jb.p4 (g0.up u1))⟩
  cases y with
  | tup xs=>refine .inl ⟨_,HS hl,ee sm ev λM1 H1 u s1 u1 r1=>?_⟩;obtain⟨p,vs,rfl,hp,hv⟩:=cD r1;exact⟨p,rfl,⟨vs,cz.of hp⟩,λhz=>nP LP hg pN pO (s1.inner n) (.tup hp hv) (r0 _ _) (jb.p4 (av.up g u1))⟩
  | ref m=>
   unfold RF.iS at g;dsimp only at g;split at g
   .rename_i af hS;obtain⟨hk,g⟩:=av.guard g;refine .inr ⟨_,wo hl,ee sm ev λM1 H1 u s1 u1 r1=>?_⟩;obtain⟨p,rfl,ea⟩:=bw r1;have g:=g.up u1;obtain⟨H2,ts,hr,c2,u2,e2,h2⟩:∃H2 ts,(H2=H1\/kh H1 p H2)/\Cn X.K W M1 S1 H2/\Up M1 H1 M1 H2/\H2 p=some (.dT ts)/\Paired (cm ofKeys M1 H2) af ts:=by
     rcases s1.con.at_ m _ p hS ea with⟨ks,h1,h2⟩|⟨ts,h1,h2⟩
     .have:=all_nil (gN h2) hk (λk=>gz);subst this;cases h2;have re:kh H1 p (upd H1 p (.dT [])):=.inl ⟨h1,rfl⟩;obtain⟨c',u'⟩:=s1.con.ret hS ea re;exact⟨_,[],.inr re,c',u',az,.nil⟩
     .exact⟨H1,ts,.inl rfl,s1.con,Up.refl _ _,h1,h2⟩
    refine⟨p,ts,H2,rfl,hr,e2,λod hz=>?_⟩;have n0:∀o u,X.H₀ p≠some (.bQ o u):=λo u z=>by have:=u2.da _ _ _ (u1.da _ _ _ (I.base.da p o u z));rw[e2] at this;cases this
    have nt:c7 (H2 p):=dN e2 rfl;have c3:Cn X.K W M1 (S1.set m (.dC af)) (upd H2 p (.bQ od (.dT ts))):=c2.bQ hS ea e2 h2;have u3:Up M1 H2 M1 (upd H2 p (.bQ od (.dT ts))):=aO nt;have s3:Sm X.K W M1 (S1.set m (.dC af)) (upd H2 p (.bQ od (.dT ts))) ρ σ:=s1.to c3 (u2.trans u3);have hlen:af.length=ts.length:=Paired.length h2;refine nP (y4 hlen (keysAt h2)) hg pN pO (s3.inner n) az (r0 _ _) ?_;cases er:RF.bF (λ_=>true) is one t bd (RF.inner n ρ) (af.map (·.1)) a0 (S1.set m (.dC af)) with
    | bad=>rw[er] at g;exact g.elim
    | ok ys S4=>
     rw[er] at g;have g3:av X.K W ra E M1 H1 (match S4[m]? with | some (.dC cF)=>.ok ys (S4.set m (.aG cF)) | _=>.bad) Q:=g;intro M4 H4 σ4 vs s4 u4 r4;have e4:H4 p=some (.bQ od (.dT ts)):=u4.da _ _ _ az;refine hR vs H4 p od ts e4 n0 ?_;split at g3
     .rename_i cF hS4;exact av.at_ g3 (s4.con.wH hS4 (dY u4.pre ea) e4) (u2.trans (y9 (o:=.dT ts) e2 u4)) (F6 _ _ _ _ _ r4 (jG λxs z=>by rw[e4] at z;cases z))
     .exact g3.elim
   .rename_i xs hS;exact lst rfl (by unfold RF.itemsOf;dsimp only;rw[hS]) g
   .exact g.elim
  | str z=>unfold RF.iS at g;dsimp only at g;obtain⟨ho,g⟩:=av.guard g;subst ho;obtain⟨y,py,rfl⟩:=hT;refine .inl ⟨_,LR hl,ee sm ev λM1 H1 u s1 u1 r1=>?_⟩;cases r1;exact⟨z,rfl,nP KD hg pN pO (s1.inner n) trivial (r0 _ _) (jb.p4 (av.up g u1))⟩
  | _=>exact g.elim
theorem CO (C:bV X W Γ E cl k)(KO:dD kt W.T cl k)(hT:vi tg one)(hg:lW X W is one gt)(pN:BI ra)(F6:∀M H H' a b,ra M H a b->pj M H M H'->ra M H' a b)(r0:∀M H,ra M H a0 b0){src:RF.Src}(hs:RF.srcOf W.T kt Γ it=some src)(I:Inv X pins σ H st)(sm:Sm X.K W M S H ρ σ)(hR:z9 X Q R)
 (g:av X.K W ra E M H (RF.hV n src is one t bd a0 ρ S) Q):rT X tg it n σ H gt (tT X.K W E0 t) (vK X.K W ra bd) b0 Q R:=by
 obtain⟨pO,g⟩:=av.guard g;have dyn:∀{src:RF.Src},(if RF.dR it=true then some (RF.Src.dyn (kt.e Γ it)) else none)=some src->av X.K W ra E M H (match src with
  | .dyn c=>(c ρ S).bind λx S1=>RF.iS is one t bd (RF.inner n ρ) a0 x S1
  | .range c=>(c ρ S).bind λx S1=>match x with
   | .int j=>RF.aB (RF.e7 j&&decide (j.toNat<=sizeLine)) ((RF.bF (λ_=>true) is one t bd (RF.inner n ρ) (RF.dZ 0 j.toNat) a0 S1))
   | _=>.bad
  | .down _=>.bad) Q->rT X tg it n σ H gt (tT X.K W E0 t) (vK X.K W ra bd) b0 Q R:=λ{src} h g=>by
  split at h
  .cases h;exact J1 hT hg pN F6 pO r0 (KO.e rfl C it) I sm hR g
  .cases h
 unfold RF.srcOf at hs;split at hs
 .rename_i r pr a pc;split at hs
  .rename_i hr;obtain⟨rfl,hgl,hp⟩:=hr;cases hs;have ha:=KO.e rfl C a;have args:PA X [a] (oz (tE X.K W E (kt.e Γ a)) lO):=dW ha gA (aA hp);have DF:PI X tg (.Call (.Name "range" pr) [a] [] pc) (AY (oz (tE X.K W E (kt.e Γ a)) lO)):=uq (C.gl hgl).1 (C.top.blt _ (by simp[cI])) args (by rw[aA hp];rfl);refine .inl ⟨_,DF,?_⟩;dsimp only at g;refine bD sm g λM1 H1 d u S1 s1 u1 r1 g1=>?_;cases d with
   | int j=>obtain⟨hz,g1⟩:=av.guard g1;unfold RF.e7 at hz;simp only[Bool.and_eq_true,decide_eq_true_eq] at hz;cases r1;exact⟨j,rfl,hz.1.1,hz.1.2,nP wA hg pN pO (s1.inner n) trivial (r0 _ _) (jb.p4 g1)⟩
   | _=>exact g1.elim
  .exact dyn hs g
 .split at hs
  .cases hs;exact g.elim
  .cases hs
 .exact dyn hs g
end
theorem l7 {T:Tab}{it:Expr}{src:RF.Src}(h:RF.srcOf T kt Γ it=some src)(env:Env):∀v,foldedSetIterable it env v=pure v:=by
 have no:RF.dR it=true->∀v,foldedSetIterable it env v=pure v:=λhn v=>by cases it<;>first | rfl | (simp[RF.dR] at hn)
 unfold RF.srcOf at h;split at h
 .split at h
  .intro v;rfl
  .split at h
   .rename_i hn;exact no hn
   .cases h
 .split at h
  .intro v;rfl
  .cases h
 .split at h
  .rename_i hn;exact no hn
  .cases h
def tL {α β:Type}(K:Fg)(W:bj)(ra:List Addr->Hp->α->β->Prop)(ob:β->HO)(E:XK)(c:RF.C α):TE:=λσ H Q=>tG K W ra E c σ H λys H2=>∀p,H2 p=none->Q (.ref p) (upd H2 p (ob ys))
theorem ER {H:Hp}{a b:Addr}{x y:HO}(h:a≠b):upd (upd H a x) b y=upd (upd H b y) a x:=by
 funext c
 unfold upd
 by_cases h1:c=a<;>by_cases h2:c=b
 .exact absurd (h1.symm.trans h2) h
 .subst h1;simp[h2]
 .subst h2;simp[h1]
 .simp[h1,h2]
structure JQ (X:Cx)(W:bj)(kt:RF.d0)(Γ:RF.Gm){α β:Type}(e:Expr)(ra:List Addr->Hp->α->β->Prop)(ob:β->HO)(a0:α)(b0:β)(c:RF.C α):Prop where
 up:BI ra
 d7:∀M H H' a b,ra M H a b->pj M H M H'->ra M H' a b
 nil:∀M H,ra M H a0 b0
 ex:∃sc tg it ifs mk fH xs bd src is one t gt,GK X e sc tg it ifs mk fH/\GR X.prog X.w β ob b0 mk/\RF.i6 sc Γ.sc xs (RF.cj xs Γ.N)=true/\RF.eD sc xs Γ.N=true/\RF.srcOf W.T kt Γ it=some src/\vi tg one/\lW X W is one gt/\c=RF.hV xs.length src is one t bd a0 /\
  (∀Ca s H fp,PG (cS X sc xs (RF.cj xs Γ.N) Ca s H fp) tg gt)/\(∀Ca s H fp,PF (cS X sc xs (RF.cj xs Γ.N) Ca s H fp) ifs (tT X.K W E0 t))/\(∀Ca s H fp D,PB (cS X sc xs (RF.cj xs Γ.N) Ca s H fp) D ob (fH D (cS X sc xs (RF.cj xs Γ.N) Ca s H fp).env) (vK X.K W ra bd)) /\
  (∃p0,∀u,evalThenUse e X.env u=(do let _ <-comprehension e sc X.env p0 mk false (eval it X.env) (some u)))
 sw:∀y py l,∃bb:Bool,swapsWith e (some (.Name y py)) l X.env=pure bb/\(bb=true->X.env.kindOf y=some .local)
theorem GC (C:bV X W Γ E cl k){sc:Scope}{xs:List Str}(mI:RF.eD sc xs Γ.N=true):(∀(j:Nat) (y:Str),(RF.cj xs Γ.N)[j]?=some y->(∃p∈sc.names,p.1=y)->X.N[j]?=some y)/\(RF.cj xs Γ.N).length=X.N.length:=
 ⟨λj y h1 h2=>by rw[C.N];exact E9 mI j y h1 h2,by rw[C.N];unfold RF.cj;simp⟩
theorem yk {β:Type}{ob:β->HO}(X:Cx)(Q:Addr->Hp->Prop):z9 X (λys H2=>∀p,H2 p=none->Q p (upd H2 p (ob ys))) (λys H2=>∀p,H2 p=none->∃d o af,upd H2 p (ob ys) d=some (.bQ o (.dT af))/\(∀o u,X.H₀ d≠some (.bQ o u))/\Q p (upd (upd H2 p (ob ys)) d (.dT af))):=by
 intro ys H2 a o ts h1 h2 q p hp;have np:p≠a:=λz=>by subst z;rw[h1] at hp;cases hp
 refine⟨a,o,ts,by rw[ax (Ne.symm np)];exact h1,h2,?_⟩;rw[ER np];exact q p (by rw[ax np];exact hp)
theorem sO (C:bV X W Γ E cl k)(KO:dD kt W.T cl k){α β:Type}{ra:List Addr->Hp->α->β->Prop}{ob:β->HO}{a0:α}{b0:β}{e:Expr}{c:RF.C α}(h:JQ X W kt Γ e ra ob a0 b0 c):PE X e (tL X.K W ra ob E c):=by
 obtain⟨sc,tg,it,ifs,mk,fH,xs,bd,src,is,one,t,gt,cp,lE,aw,mI,hs,hT,hg,rfl,hG,ht,hb,_⟩:=h.ex;have up:=h.up;have d7:=h.d7;have nil:=h.nil;intro pins st σ H Q I ⟨M,ρ,S,sm,g⟩;have goal:=CO (tg:=tg) C KO hT hg up d7 nil hs I sm (yk X λp H=>Q (.ref p) H) g;obtain⟨hM,hlen⟩:=GC C mI;rcases goal with⟨wi,hi,hw⟩|⟨wi,hi,hw⟩
 .exact yH C.calm cp lE (i7 aw C.jg) hM hlen hi hG ht hb (l7 hs X.env) pins st σ H Q I hw
 .exact Jw (yH C.calm cp lE (i7 aw C.jg) hM hlen hi hG ht hb (l7 hs X.env)) pins st σ H Q I hw
theorem Az {α:Type}{T:Tab}{Γ':RF.Gm}{n:Nat}{tg it:Expr}{ifs:List Expr}{bd f:α->RF.C α}(h:RF.DU T kt Γ Γ' n tg it ifs bd=some f):∃src is one t,RF.srcOf T kt Γ it=some src/\RF.jD Γ' tg=some (is,one)/\RF.Ay kt Γ' ifs=some t/\f=RF.hV n src is one t bd:=by
 unfold RF.DU at h;split at h
 .rename_i s is one t h1 h2 h3;cases h;exact⟨s,is,one,t,h1,h2,h3,rfl⟩
 .cases h
theorem Aq {sc:Scope}{xs:List Str}{Γ':RF.Gm}(h:RF.Ep Γ sc xs=some Γ'):RF.i6 sc Γ.sc xs (RF.cj xs Γ.N)=true/\RF.eD sc xs Γ.N=true/\Γ'=⟨xs++RF.cj xs Γ.N,sc,false⟩:=by
 unfold RF.Ep at h;split at h
 .rename_i z;cases h;exact⟨z.1,z.2,rfl⟩
 .cases h
theorem Ec:BI ay:=λ_ _ _ _ _ _ r u=>r.up u
theorem jt (C:bV X W Γ E cl k)(KO:dD kt W.T cl k){e:Expr}{c:RF.C (List D)}(h:RF.iT W.T kt Γ e=some c):JQ X W kt Γ e ay HO.lst [] [] c:=by
 unfold RF.iT at h;split at h
 .rename_i elt tg it ifs sc p;obtain⟨Γ',h1,h⟩:=Option.bind_eq_some_iff.mp h;obtain⟨aw,mI,rfl⟩:=Aq h1;obtain⟨f,h2,rfl⟩:=Option.map_eq_some_iff.mp h;obtain⟨src,is,one,t,h3,h4,h5,rfl⟩:=Az h2;obtain⟨gt,hg,hG⟩:=Ms C mI aw h4;exact⟨Ec,λ_ _ _ _ _ r u=>r.d7 u,λ_ _=>.nil,⟨sc,tg,it,ifs,_,_,_,_,src,is,one,t,gt,NB,H9,aw,mI,h3,EH h4,hg,rfl,hG,λCa s H fp=>HY C KO mI h5 Ca s H fp,λCa s H fp D=>PB.imp (IH (KO.e rfl (C.GZ mI Ca s H fp) elt)) Jn,⟨_,λ_=>rfl⟩⟩,λy py l=>⟨_,rfl,λz=>by simp only[Bool.and_eq_true] at z;exact eq_of_beq z.1.1.2⟩⟩
 .cases h
theorem yJ (C:bV X W Γ E cl k)(KO:dD kt W.T cl k){e:Expr}{c:RF.C (List D)}(h:RF.iT W.T kt Γ e=some c):PE X e (tE X.K W E λρ S=>(c ρ S).bind λys S1=>RF.fz (.lst ys) S1):=by refine(sO C KO (jt C KO h)).imp λσ H Q ⟨M,ρ,S,sm,g⟩=>?_;exact bD (c:=c) sm g λM1 H1 ys vs S1 s1 u1 r1 g1=>iG g1 s1.con r1
theorem J5 (C:bV X W Γ E cl k)(KO:dD kt W.T cl k){e:Expr}{c:RF.C (List D)}{pf:Pos}(h:RF.iT W.T kt Γ e=some c)(hp:RF.aI e=true)(hg:RF.fe Γ "all" = true):PE X (.Call (.Name "all" pf) [e] [] pos) (tE X.K W E (RF.sU c)):=by
 obtain⟨g1,g2⟩:=C.gl hg;refine(iD (Co C.calm) g1 (C.top.blt _ (by simp[cI])) boot_all (dW (sO C KO (jt C KO h)) gA (aA hp)) (by decide +kernel) g2 (aA hp) (bJ rfl)).imp λσ H Q ⟨M,ρ,S,sm,g⟩=>?_;refine bD (c:=c) sm g λM1 H1 ys vs S1 s1 u1 r1 g1 p hp=>?_;split at g1
 .rename_i bs hb;refine⟨p,bs,rfl,?_,av.at_ g1 (s1.con.fresh hp) (bO hp) (.bl _)⟩;rw[<-Ce r1 hb];exact cB.of az
 .exact g1.elim
theorem DR (C:bV X W Γ E cl k)(KO:dD kt W.T cl k){e:Expr}{c:RF.C (List D)}{pf:Pos}(h:RF.iT W.T kt Γ e=some c)(hp:RF.aI e=true)(hg:RF.fe Γ "tuple" = true):PE X (.Call (.Name "tuple" pf) [e] [] pos) (tE X.K W E (RF.rq c)):=by obtain⟨g1,g2⟩:=C.gl hg;refine(kq mx g1 (C.top.blt _ (by simp[cI])) boot_tuple (dW (sO C KO (jt C KO h)) gA (aA hp)) (by decide +kernel) g2 (aA hp) (bJ rfl)).imp λσ H Q ⟨M,ρ,S,sm,g⟩=>?_;refine bD (c:=c) sm g λM1 H1 ys vs S1 s1 u1 r1 g1 p hp=>?_;refine⟨p,vs,rfl,.inl ⟨cB.of az,λl hl=>?_⟩⟩;have c2:=(s1.con.fresh (o:=.lst vs) hp).fresh (o:=.tup vs) hl;have u2:=(bO (M:=M1) (o:=.lst vs) hp).trans (bO (o:=.tup vs) hl);exact av.at_ g1 c2 u2 (.tup az (r1.up u2))
end
end L2
namespace L2
open PySem PySem.Spec PyProof.Rows
open RF (D O ae Tab)
section
variable {X:Cx}{W:bj}{Γ:RF.Gm}{E:XK}{cl:RF.Calls}{k:Nat}{kt:RF.d0}
theorem iB {es:List Expr}{f:Expr->RF.C D}(h:∀e,PE X e (tE X.K W E (f e))):∀e∈es,PE X e (tE X.K W E (f e)):=λe _=>h e
section
variable {a b c e:Expr}{ca cb cc:RF.C D}{pos:Pos}
end
theorem HG (KO:dD kt W.T cl k)(C:bV X W Γ E cl k){a:Expr}{pf pos:Pos}(hg:RF.fe Γ "len" = true)(hp:RF.aI a=true):PE X (.Call (.Name "len" pf) [a] [] pos) (tE X.K W E (RF.Ej W.T cl kt Γ a)):=by
 unfold RF.Ej;split
 .rename_i b hb;unfold RF.setArg at hb;split at hb
  .rename_i s _ b' _;split at hb
   .rename_i z;cases hb;obtain⟨rfl,z1,z2⟩:=z;unfold RF.Ou at z1;simp only[Bool.and_eq_true] at z1;exact Dq C hg z1.1.1.1.1 (KO.e rfl C b) z2
   .cases hb
  .cases hb
 .exact LN C hg (KO.e rfl C a) hp
theorem BD {l:List Str}(h:RF.jU l=true):l.Nodup:=lV h
theorem El (KO:dD kt W.T cl k)(C:bV X W Γ E cl k)(x:Str)(args:List Expr)(kws:List Keyword)(pf pos:Pos):PE X (.Call (.Name x pf) args kws pos) (tE X.K W E (RF.zY W.T cl kt Γ x args kws)):=by
 have he:=λe=>KO.e rfl C e;unfold RF.zY;split
 .exact bg
 .rename_i hh;simp only[not_or,Bool.not_eq_false,Bool.not_eq_true] at hh;obtain⟨hg,hp,hn,hs,_⟩:=hh;split
  .rename_i c i _ hc hi;split
   .rename_i hM;obtain⟨h1,h2,h3,h4⟩:=hM;cases args with
    | nil=>cases hn
    | cons e es=>refine vR C hc hi h1 h2 hg he hp hs ?_ (BD h4);rw[List.all_eq_true] at h3 ⊢;intro q hq;obtain⟨kw,k1,k2⟩:=List.mem_filterMap.mp hq;have:=h3 kw k1;rw[List.any_eq_true] at this ⊢;obtain⟨p,p1,p2⟩:=this;refine⟨p,p1,decide_eq_true ?_⟩;have p2:=of_decide_eq_true p2;rw[k2] at p2;exact Option.some.inj p2
   .exact bg
  .exact bg
theorem EJ (KO:dD kt W.T cl k)(C:bV X W Γ E cl k)(x:Str)(args:List Expr)(pf pos:Pos):PE X (.Call (.Name x pf) args [] pos) (tE X.K W E (RF.Aa W.T cl kt Γ x args)):=by
 have he:=λe=>KO.e rfl C e;unfold RF.Aa;split
 .exact bg
 .rename_i hh;simp only[not_or,Bool.not_eq_false] at hh;obtain⟨hg,hp⟩:=hh;split
  .rename_i i hi;exact JF C hi hg (iB he) hp
  .split
   .rename_i c hc;split
    .rename_i i hi;split
     .rename_i hM;exact HQ C hc hi hM.1 hM.2 hg he hp
     .exact bg
    .exact bg
   .split
    .exact bg
    .split
     .rename_i hx;subst hx;split
      .rename_i a t pt;split
       .rename_i d hd;split
        .rename_i ht;have DG:RF.aI a=true:=by simp only[List.all_cons,Bool.and_eq_true] at hp;exact hp.1
         exact Mj C hg ht.1 hd (he a) DG
        .exact bg
       .exact bg
      .exact bg
     .split
      .rename_i a;have DG:RF.aI a=true:=by simpa using hp
       have gen:PE X (.Call (.Name x pf) [a] [] pos) (tE X.K W E (match RF.vo x 1 with | some b=>RF.ao (RF.cx b) [kt.e Γ a] | none=>RF.aW)):=by
        split
        .rename_i b hb;exact rM (es:=[a]) (f:=kt.e Γ) C hb hg (iB he) hp
        .exact bg
       split
       .rename_i hx;subst hx;exact HG KO C hg DG
       .split
        .rename_i c hc;split
         .rename_i hx;subst hx;exact J5 C KO hc DG hg
         .split
          .rename_i hx;subst hx;exact DR C KO hc DG hg
          .exact gen
        .exact gen
      .split
       .rename_i b hb;exact rM C hb hg (iB he) hp
       .exact bg
theorem BE (c:PySem.Const)(kd:Nat)(p:Pos):PE X (.Constant c kd p) (tE X.K W E (RF.Bx c)):=by
 cases c with
 | none=>exact nG (t:=tC .aj) Me λ_ _=>.aj
 | bool b=>exact nG (t:=tC (.bl b)) NV λ_ _=>.bl b
 | int i=>exact nG (t:=tC (.int i)) vL λ_ _=>.int i
 | str x=>exact nG (t:=tC (.str x)) MK λ_ _=>.str x
 | _=>exact bg
theorem Eb (he:∀e,PE X e (tE X.K W E (kt.e Γ e)))(op:BoolOp)(es:List Expr)(p:Pos):PE X (.BoolOp op es p) (tE X.K W E (RF.GW kt Γ op p es)):=by
 match es with
 | []=>exact bg
 | [a]=>exact L8 (he a)
 | a::b::r=>cases op with
  | And=>exact ME (he _) (he _)
  | Or=>exact N4 (he _) (he _)
theorem Hw (he:∀e,PE X e (tE X.K W E (kt.e Γ e)))(C:bV X W Γ E cl k)(a:Expr)(ops:List CmpOp)(bs:List Expr)(p:Pos):PE X (.Compare a ops bs p) (tE X.K W E (RF.FV kt Γ a ops bs)):=by
 unfold RF.FV;split
 .rename_i op b;split
  .rename_i hs;obtain⟨r,h1,h2⟩:=kX (X:=X) (W:=W) (E:=E) C.units op;exact LC h1 h2 (he a) (he b) (yy hs)
  .exact bg
 .rename_i o1 o2 b c;split
  .rename_i hs;obtain⟨r1,h1,h2⟩:=kX (X:=X) (W:=W) (E:=E) C.units o1;obtain⟨r2,h3,h4⟩:=kX (X:=X) (W:=W) (E:=E) C.units o2;exact Es h1 h3 h2 h4 (he a) (he b) (he c) hs.2
  .exact bg
 .exact bg
theorem HN (he:∀e,PE X e (tE X.K W E (kt.e Γ e)))(C:bV X W Γ E cl k)(a b:Expr)(p:Pos):PE X (.Subscript a b p) (tE X.K W E (RF.LK kt Γ a b)):=by
 have gen:∀b,RF.eX b=true->PE X (.Subscript a b p) (tE X.K W E (RF.bh (kt.e Γ a) (kt.e Γ b))):=λb hs=>NL C (he _) (he _) hs;cases b with
 | Slice lo hi st q=>cases st with
  | none=>exact D3 (he _) (λe _=>he e) (λe _=>he e)
  | some _=>exact bg
 | _=>exact gen _ rfl
theorem Mw (KO:dD kt W.T cl k)(C:bV X W Γ E cl k)(f:Expr)(args:List Expr)(kws:List Keyword)(p:Pos):PE X (.Call f args kws p) (tE X.K W E (RF.MQ W.T cl kt Γ f args kws p)):=by
 have he:=λe=>KO.e rfl C e;unfold RF.MQ;split
 .split
  .exact EJ KO C _ _ _ _
  .exact El KO C _ _ _ _ _
 .split
  .rename_i h;obtain⟨h0,h1,h2,h3,h4,h5⟩:=h;cases kws with
   | nil=>exact Hl C (he _) (iB he) h2 h1 h3 h4 h5
   | cons _ _=>cases h0
  .exact bg
 .exact bg
theorem xf (KO:dD kt W.T cl k)(C:bV X W Γ E cl k)(e:Expr):PE X e (tE X.K W E (RF.qW W.T cl kt Γ e)):=by
 have he:=λe=>KO.e rfl C e;cases e with
 | Constant c kd p=>exact BE c kd p
 | Name x p=>exact Jl C _
 | BinOp a op b p=>obtain⟨r,h1,h2⟩:=Kb (X:=X) (W:=W) (E:=E) op;exact Ly h1 h2 (he a) (he b)
 | UnaryOp op a p=>cases op with
  | Not=>exact LZ (he _)
  | USub=>exact MM (he _)
  | _=>exact bg
 | BoolOp op es p=>exact Eb he op es p
 | IfExp c a b p=>exact NC (KO.t rfl C _) (he _) (he _)
 | Compare a ops bs p=>exact Hw he C a ops bs p
 | Tuple es kd p=>
  show PE X _ (tE X.K W E (if es.all RF.aI=true then RF.ba (es.map (kt.e Γ)) else RF.aW));split
  .rename_i hp;exact Kh (iB he) hp
  .exact bg
 | List es p=>
  show PE X _ (tE X.K W E (if es.all RF.aI=true then RF.bT (es.map (kt.e Γ)) else RF.aW));split
  .rename_i hp;exact J4 (iB he) hp
  .exact bg
 | Dict ks vs p=>
  show PE X _ (tE X.K W E (if ks.isEmpty=true/\vs.isEmpty=true then RF.g8 else RF.aW));split
  .rename_i h;cases ks with
   | cons _ _=>cases h.1
   | nil=>cases vs with
    | cons _ _=>cases h.2
    | nil=>exact IY
  .exact bg
 | Attribute a f p=>
  show PE X _ (tE X.K W E (match RF.b9 W.T.cQ f with | some i=>if RF.i0 a=true then RF.aE (kt.e Γ a) i else RF.aW | none=>RF.aW));split
  .rename_i i hi;split
   .rename_i hb;exact MC C (he a) hi hb
   .exact bg
  .exact bg
 | Subscript a b p=>exact HN he C a b p
 | ListComp el gs sc p=>
  show PE X _ (tE X.K W E (match RF.iT W.T kt Γ (.ListComp el gs sc p) with | some c=>λρ S=>(c ρ S).bind λys S1=>RF.fz (.lst ys) S1 | none=>RF.aW));split
  .rename_i c hc;exact yJ C KO hc
  .exact bg
 | Call f args kws p=>exact Mw KO C f args kws p
 | _=>exact bg
theorem AA (KO:dD kt W.T cl k)(C:bV X W Γ E cl k){a b:Expr}{op:CmpOp}{p:Pos}:PT X (.Compare a [op] [b] p) (tT X.K W E (RF.aq (RF.qW W.T cl kt Γ (.Compare a [op] [b] p)))):=by
 have he:=λe=>KO.e rfl C e;show PT X _ (tT X.K W E (RF.aq (if RF.dR b=true then RF.aC op (kt.e Γ a) (kt.e Γ b) else RF.aW)));split
 .rename_i hs;obtain⟨r,h1,h2⟩:=kX (X:=X) (W:=W) (E:=E) C.units op;exact AB h1 h2 (he a) (he b) (yy hs)
 .intro pins s σ H Q I ⟨M,ρ,S,sm,g⟩;exact g.elim
theorem AM (KO:dD kt W.T cl k)(C:bV X W Γ E cl k){a b c:Expr}{o1 o2:CmpOp}{p:Pos}:PT X (.Compare a [o1,o2] [b,c] p) (tT X.K W E (RF.aq (RF.qW W.T cl kt Γ (.Compare a [o1,o2] [b,c] p)))):=by
 have he:=λe=>KO.e rfl C e;show PT X _ (tT X.K W E (RF.aq (if RF.dR b=true/\RF.dR c=true then RF.iq o1 o2 (kt.e Γ a) (kt.e Γ b) (kt.e Γ c) else RF.aW)));split
 .rename_i hs;obtain⟨r1,h1,h2⟩:=kX (X:=X) (W:=W) (E:=E) C.units o1;obtain⟨r2,h3,h4⟩:=kX (X:=X) (W:=W) (E:=E) C.units o2;exact wu h1 h3 h2 h4 (he a) (he b) (he c) hs.2
 .intro pins s σ H Q I ⟨M,ρ,S,sm,g⟩;exact g.elim
theorem y3 (KO:dD kt W.T cl k)(C:bV X W Γ E cl k)(op:BoolOp)(vs:List Expr)(p:Pos):PW X (.BoolOp op vs p) (tT X.K W E (RF.stepT W.T kt Γ (.BoolOp op vs p))):=by
 have ht:=λe=>KO.t rfl C e;have bad:∀{e:Expr},PW X e (tT X.K W E RF.aW):=λ{e} wh pins s σ H Q I h=>(rh h).elim
 match vs with
 | []=>cases op<;>exact bad
 | [a]=>cases op with
  | And=>exact HJ (ht a)
  | Or=>exact L7 (ht a)
 | a::b::r=>cases op with
  | And=>exact IZ (ht a) (KO.w rfl C .And (b::r) p)
  | Or=>exact L0 (ht a) (KO.w rfl C .Or (b::r) p)
theorem Fe (KO:dD kt W.T cl k)(C:bV X W Γ E cl k)(e:Expr):PT X e (tT X.K W E (RF.stepT W.T kt Γ e)):=by
 have he:=λe=>KO.e rfl C e;have ht:=λe=>KO.t rfl C e;cases e with
 | UnaryOp op a p=>cases op with
  | Not=>exact Hy (ht a)
  | _=>exact gv
 | BoolOp op vs p=>exact(y3 KO C op vs p).pt
 | IfExp _ _ _ _=>exact gv
 | Compare a ops bs p=>
  match ops,bs with
  | [op],[b]=>exact KO.c1 rfl C a op b p
  | [o1,o2],[b,c]=>exact KO.c2 rfl C a o1 o2 b c p
  | [],_=>exact gv
  | [_],[]=>exact gv
  | [_],_::_::_=>exact gv
  | [_,_],[]=>exact gv
  | [_,_],[_]=>exact gv
  | [_,_],_::_::_::_=>exact gv
  | _::_::_::_,_=>exact gv
 | _=>exact Hm (he _) λ_=>rfl
theorem sC (T:Tab)(cl:RF.Calls)(k:Nat):∀n,dD (RF.qI T cl n) T cl k
 | 0=>⟨λ_ _ _=>bg,λ_ _ _=>gv,λ_ _ _ _ _=>λwh pins s σ H Q I h=>(rh h).elim,λ_ _ _ _ _ _=>λpins s σ H Q I ⟨M,ρ,S,sm,g⟩=>g.elim,λ_ _ _ _ _ _ _ _=>λpins s σ H Q I ⟨M,ρ,S,sm,g⟩=>g.elim⟩
 | n+1=>by
  have KO:=sC T cl k n;refine⟨λ{X W Γ E} hT C e=>?_,λ{X W Γ E} hT C e=>?_,λ{X W Γ E} hT C op vs p=>?_,λ{X W Γ E} hT C a op b p=>?_,λ{X W Γ E} hT C a o1 o2 b c p=>?_⟩
  .subst hT;exact xf KO C e
  .subst hT;exact Fe KO C e
  .subst hT;exact y3 KO C op vs p
  .subst hT;exact AA KO C
  .subst hT;exact AM KO C
end
end L2
namespace L2
open PySem PySem.Spec PyProof.Rows
open RF (D O ae Tab)
section
variable {K:Fg}{W:bj}{M M1 M2:List Addr}{S S1 S2:ae}{H H1 H2:Hp}{ρ:RF.Env}{σ:St}{E:XK}
def a4 (K:Fg)(W:bj)(E:XK)(M:List Addr)(H:Hp)(r:RF.F)(D:Ends):Prop:=match r with
 | .nx ρ' S'=>∀M' H' σ',Sm K W M' S' H' ρ' σ'->Up M H M' H'->D.nx σ' H'
 | .bk ρ' S'=>∀M' H' σ',Sm K W M' S' H' ρ' σ'->Up M H M' H'->D.bk σ' H'
 | .ct ρ' S'=>∀M' H' σ',Sm K W M' S' H' ρ' σ'->Up M H M' H'->D.ct σ' H'
 | .rt d S'=>∀M' H' v,Cn K W M' S' H'->Up M H M' H'->au M' H' d v->D.rt v H'
 | .bad=>False
theorem a4.up {r:RF.F}{D:Ends}(h:a4 K W E M H r D)(u:Up M H M1 H1):a4 K W E M1 H1 r D:=by
 cases r with
 | nx ρ' S'=>exact λM' H' σ' s u'=>h M' H' σ' s (u.trans u')
 | bk ρ' S'=>exact λM' H' σ' s u'=>h M' H' σ' s (u.trans u')
 | ct ρ' S'=>exact λM' H' σ' s u'=>h M' H' σ' s (u.trans u')
 | rt d S'=>exact λM' H' v c u'=>h M' H' v c (u.trans u')
 | bad=>exact h
def tF (K:Fg)(W:bj)(E:XK)(c:RF.CS):TS:=λD σ H=>∃M ρ S,Sm K W M S H ρ σ/\a4 K W E M H (c ρ S) D
theorem O4 {α β:Type}{rel:List Addr->Hp->α->β->Prop}{r:RF.R α}{f:α->ae->RF.F}{D:Ends}{Q1:β->Hp->Prop}(h:a4 K W E M H (RF.dI r f) D)
 (k:∀M1 H1 a b S1,Cn K W M1 S1 H1->Up M H M1 H1->rel M1 H1 a b->a4 K W E M1 H1 (f a S1) D->Q1 b H1):av K W rel E M H r Q1:=by
 cases r with
 | ok a S1=>exact λM1 H1 b c1 u1 r1=>k M1 H1 a b S1 c1 u1 r1 (a4.up h u1)
 | bad=>exact h
theorem iw {α β:Type}{rel:List Addr->Hp->α->β->Prop}{c:RF.C α}{f:α->ae->RF.F}{D:Ends}{Q1:β->Hp->Prop}(s:Sm K W M S H ρ σ)(h:a4 K W E M H (RF.dI (c ρ S) f) D)
 (k:∀M1 H1 a b S1,Sm K W M1 S1 H1 ρ σ->Up M H M1 H1->rel M1 H1 a b->a4 K W E M1 H1 (f a S1) D->Q1 b H1):tG K W rel E c σ H Q1:=
 ⟨M,ρ,S,s,O4 h λM1 H1 a b S1 c1 u1 r1 g1=>k M1 H1 a b S1 (s.to c1 u1) u1 r1 g1⟩
theorem a4.nx {D:Ends}(h:a4 K W E M H (.nx ρ S) D)(s:Sm K W M S H ρ σ):D.nx σ H:=h M H σ s (Up.refl _ _)
end
theorem PS.cV {X:Cx}{st:Stmt}{t:TS}(h:PS X.cV st t):PS X st t:=λpins s σ H D I hw=>
 wpAny_mono (h pins s σ H D (I.kM _) hw) (λ_ _ q=>q.i9) λ_ _ z=>False.elim z
theorem cA {X:Cx}{K:Fg}{W:bj}{E:XK}{st:Stmt}:PS X st (tF K W E RF.bN):=λ_ _ _ _ _ _ ⟨_,_,_,_,g⟩=>g.elim
structure eF (X:Cx)(W:bj)(Γ:RF.Gm)(E:XK)(cl:RF.Calls)(k:Nat):Prop extends bV X W Γ E cl k where
 Od:cT (k+2) X.A
 fn:∀x,X.fn x=true
 sc:X.env.scope=Γ.sc
 kind:X.env.scope.kind = .function
theorem eF.cV {X:Cx}{W:bj}{Γ:RF.Gm}{E:XK}{cl:RF.Calls}{k:Nat}(C:eF X W Γ E cl k):eF X.cV W Γ E0 cl k:=
 ⟨⟨C.N,C.nd,C.jg,C.calm,C.room,zI,C.top⟩,C.Od,C.fn,C.sc,C.kind⟩
section
variable {X:Cx}{W:bj}{Γ:RF.Gm}{E:XK}{cl:RF.Calls}{k:Nat}{kt:RF.d0}{a b c e:Expr}{ca cb cc:RF.C D}{pos:Pos}
theorem vp {e:Expr}{t:Option Expr}{l:Nat}{env:Env}(h:RF.fM e=false):swapsWith e t l env=pure false:=by cases e<;>first | rfl | (simp[RF.fM] at h)
theorem jI {e:Expr}{t:Expr}{l:Nat}{env:Env}(h:∀x p,t ≠ .Name x p):swapsWith e (some t) l env=pure false:=by cases e<;>first | rfl | (cases t<;>first | rfl | exact absurd rfl (h _ _))
theorem Iv:PS X (.Pass pos) (tF X.K W E RF.Gp):=IE.imp λD σ H ⟨M,ρ,S,s,g⟩=>g.nx s
theorem FR:PS X (.Break pos) (tF X.K W E RF.Dm):=FY.imp λD σ H ⟨M,ρ,S,s,g⟩=>g M H σ s (Up.refl _ _)
theorem JA:PS X (.Continue pos) (tF X.K W E RF.GP):=xR.imp λD σ H ⟨M,ρ,S,s,g⟩=>g M H σ s (Up.refl _ _)
theorem Ju (he:PE X e (tE X.K W E ca))(hc:RF.fM e=false):PS X (.Expr e pos) (tF X.K W E (RF.aU ca)):=
 (JJ he (vp hc)).imp λD σ H ⟨M,ρ,S,s,g⟩=>iw s g λM1 H1 a b S1 s1 u1 r1 g1=>a4.nx g1 s1
theorem Lb (he:PE X e (tE X.K W E ca)):PS X (.Return (some e) pos) (tF X.K W E (RF.retS ca)):=
 (Mm he).imp λD σ H ⟨M,ρ,S,s,g⟩=>iw s g λM1 H1 a b S1 s1 u1 r1 g1=>g1 M1 H1 b s1.con (Up.refl _ _) r1
theorem IJ:PS X (.Return none pos) (tF X.K W E (RF.retS (RF.cE .aj))):=
 Jr.imp λD σ H ⟨M,ρ,S,s,g⟩=>g M H .aj s.con (Up.refl _ _) .aj
theorem GI {f:Stmt->RF.CS}:∀{ss:List Stmt},(∀s∈ss,PS X s (tF X.K W E (f s)))->iy X ss (tF X.K W E (RF.ah (ss.map f)))
 | [],_=>Jo.imp λD σ H ⟨M,ρ,S,s,g⟩=>g.nx s
 | st::ss,h=>by
  refine(EX (h st List.mem_cons_self) (GI λs hs=>h s (List.mem_cons_of_mem _ hs))).imp λD σ H ⟨M,ρ,S,s,g⟩=>?_;have g:a4 X.K W E M H ((f st ρ S).then (RF.ah (ss.map f))) D:=g;refine⟨M,ρ,S,s,?_⟩;cases e:f st ρ S with
  | nx ρ' S'=>rw[e,RF.F.Ih] at g;exact λM' H' σ' s' u'=>⟨M',ρ',S',s',a4.up g u'⟩
  | rt d S'=>rw[e] at g;exact g
  | bk ρ' S'=>rw[e] at g;exact g
  | ct ρ' S'=>rw[e] at g;exact g
  | bad=>rw[e] at g;exact g
theorem NJ {ct:RF.C Bool}{A B:List Stmt}{ta tb:RF.CS}(hc:PT X c (tT X.K W E ct))(ha:iy X A (tF X.K W E ta))(hb:iy X B (tF X.K W E tb)):PS X (.If c A B pos) (tF X.K W E (RF.bA ct ta tb)):=by
 refine(NN hc ha hb).imp λD σ H ⟨M,ρ,S,s,g⟩=>iw s g λM1 H1 x y S1 s1 u1 r1 g1=>?_;subst r1;cases x with
 | true=>exact pU ⟨M1,ρ,S1,s1,g1⟩
 | false=>exact qg ⟨M1,ρ,S1,s1,g1⟩
theorem eV (C:eF X W Γ E cl k){x:Str}{i:Nat}(h:RF.slot Γ x=some i):X.N[i]?=some x/\Loc X.env.scope x:=by
 unfold RF.slot at h;split at h
 .rename_i hk;refine⟨by rw[C.N];exact cK h,?_⟩;rw[C.sc];rw[Bool.or_eq_true] at hk;rcases hk with z | z
  .exact .inl (eq_of_beq z)
  .exact .inr (eq_of_beq z)
 .cases h
theorem Dk (C:eF X W Γ E cl k){x:Str}{i:Nat}{px:Pos}(hi:RF.slot Γ x=some i)(he:PE X e (tE X.K W E ca))(hs:swapsWith e (some (.Name x px)) pos.line X.env=pure false):PS X (.Assign [.Name x px] e pos) (tF X.K W E (RF.a5 i ca)):=by obtain⟨h1,h2⟩:=eV C hi;exact(KL C.nd h1 h2 he hs (.inl (C.fn x))).imp λD σ H ⟨M,ρ,S,s,g⟩=>iw s g λM1 H1 a b S1 s1 u1 r1 g1=>a4.nx g1 (s1.set r1)
end
end L2
namespace L2
open PySem PySem.Spec PyProof.Rows
open RF (D O ae Tab)
section
variable {X:Cx}{W:bj}{Γ:RF.Gm}{E:XK}{cl:RF.Calls}{k:Nat}{kt:RF.d0}{a b c e:Expr}{ca cb cc:RF.C D}{pos:Pos}
theorem Nd (C:eF X W Γ E cl k)(KO:dD kt W.T cl k){y:Str}{i:Nat}{py:Pos}(hi:RF.slot Γ y=some i){α β:Type}{ra:List Addr->Hp->α->β->Prop}{ob:β->HO}{a0:α}{b0:β}{c:RF.C α}{o:α->O}(h:JQ X W kt Γ e ra ob a0 b0 c)
 (zm:∀a,fF (some (o a))=false) (hn:∀{M H p a b},H p=none->ra M H a b->eQ X.K W (M++[p]) (upd H p (ob b)) p (o a)) (hpe:PE X e (tE X.K W E λρ S=>(c ρ S).bind λys S1=>RF.fz (o ys) S1)):
 PS X (.Assign [.Name y py] e pos) (tF X.K W E (RF.a5 i λρ S=>(c ρ S).bind λys S1=>RF.fz (o ys) S1)):=by
 obtain⟨h1,h2⟩:=eV C hi;obtain⟨bb,hsw,hloc⟩:=h.sw y py pos.line;cases bb with
 | false=>exact Dk C hi hpe hsw
 | true=>
  have hy:X.env.scope.names.lookup y=some .local:=hloc rfl;obtain⟨sc,tg,it,ifs,mk,fH,xs,bd,src,is,one,t,gt,cp,lE,aw,mI,hs,hT,hg,rfl,hG,ht,hb,p0,hu⟩:=h.ex;intro pins st σ H D I ⟨M,ρ,S,sm,g⟩;have g2:av X.K W ra E M H (RF.hV xs.length src is one t bd a0 ρ S) (λys H2=>∀p,H2 p=none->D.nx (σ.set i (some (.ref p))) (upd H2 p (ob ys))):=by
   have g:a4 X.K W E M H (RF.dI ((RF.hV xs.length src is one t bd a0 ρ S).bind λys S1=>RF.fz (o ys) S1) λd S1=>.nx (ρ.set i (some d)) S1) D:=g;cases ev:RF.hV xs.length src is one t bd a0 ρ S with
   | bad=>rw[ev] at g;exact g
   | ok ys S1=>rw[ev] at g;intro M1 H1 vs c1 u1 r1 q hq;have g:a4 X.K W E M H (.nx (ρ.set i (some (.ref S1.length))) (S1++[o ys])) D:=g;have s1:=sm.to c1 u1;have s2:Sm X.K W (M1++[q]) (S1++[o ys]) (upd H1 q (ob vs)) ρ σ:=s1.to (c1.new hq (zm _) (hn hq r1)) (iY hq);exact g _ _ _ (s2.set (nV c1)) (u1.trans (iY hq))
  have goal:=CO (tg:=tg) C.tobV KO hT hg h.up h.d7 h.nil hs I sm (yk X λp H=>D.nx (σ.set i (some (.ref p))) H) g2;obtain⟨hM,hlen⟩:=GC C.tobV mI;have hx:exec (.Assign [.Name y py] e pos) X.env=(standAt pos >>= λ_=>(do let _ <-comprehension e sc X.env p0 mk false (eval it X.env) (some (assign (.Name y py) X.env))) >>= λ_=>pure .next):=by rw[exec_Assign_Name_used _ _ _ _ hsw,hu]
  rcases goal with⟨wi,hwi,hw⟩|⟨wi,hwi,hw⟩
  .exact yQ C.calm C.nd h1 hy hx cp lE (i7 aw C.jg) hM hlen hwi hG ht hb (l7 hs X.env) pins st σ H D I hw
  .exact yZ (yQ C.calm C.nd h1 hy hx cp lE (i7 aw C.jg) hM hlen hwi hG ht hb (l7 hs X.env)) pins st σ H D I hw
theorem JL (C:eF X W Γ E cl k)(KO:dD kt W.T cl k){y:Str}{i:Nat}{py:Pos}{cL:RF.C (List D)}(hi:RF.slot Γ y=some i)(h:RF.iT W.T kt Γ e=some cL):
 PS X (.Assign [.Name y py] e pos) (tF X.K W E (RF.a5 i λρ S=>(cL ρ S).bind λys S1=>RF.fz (.lst ys) S1)):=
 Nd C KO hi (jt C.tobV KO h) (λ_=>rfl) (λhp r=>⟨_,az,r.up (iY hp)⟩) (yJ C.tobV KO h)
theorem oA {ts:List Expr}{kk:Nat}{pt:Pos}{e:Expr}{l:Nat}{env:Env}:swapsWithSole [.Tuple ts kk pt] e l env=pure false:=by show swapsWith e (some (.Tuple ts kk pt)) l env=pure false;exact jI λ_ _ z=>by cases z
theorem ki (C:eF X W Γ E cl k):∀{ts:List Expr} {is:List Nat},RF.slots Γ ts=some is->yN X ts (il is)
 | [],is,h=>by cases h;exact yD
 | e::r,is,h=>by obtain⟨x,p,i,js,rfl,h1,h2,_,rfl⟩:=c0 h;obtain⟨g1,g2⟩:=eV C h1;exact wy (oB C.nd g1 g2 (.inl (C.fn x))) (ki C h2) rfl
theorem LI {ts:List Expr}{kk:Nat}{pt:Pos}{e:Expr}{env:Env}(h:∀es k2 p2,e ≠ .Tuple es k2 p2):swappedStores [.Tuple ts kk pt] e env=pure none:=by cases e<;>first | rfl | exact absurd rfl (h _ _ _)
theorem Mb (C:eF X W Γ E cl k){ts:List Expr}{is:List Nat}{kk:Nat}{pt:Pos}(hi:RF.slots Γ ts=some is)(he:PE X e (tE X.K W E ca))(hw:swappedStores [.Tuple ts kk pt] e X.env=pure none):PS X (.Assign [.Tuple ts kk pt] e pos) (tF X.K W E (RF.tupS is ca)):=by
 obtain⟨a1,a2,a3⟩:=fY (env:=X.env) hi;refine(wG he (rL C.calm (ki C hi) rfl a2) oA hw rfl).imp λD σ H ⟨M,ρ,S,s,g⟩=>iw s g λM1 H1 d v S1 s1 u1 r1 g1=>?_;split at g1
 .rename_i ds;obtain⟨p,vs,rfl,hp,hv⟩:=cD r1;split at g1
  .rename_i ρ' hl;refine⟨p,vs,rfl,cz.of hp,?_,rC hl hv s1 λσ' s'=>a4.nx g1 s'⟩;rw[<-hv.length,lP hl,a3,a1]
  .exact g1.elim
 .exact g1.elim
theorem LJ (C:eF X W Γ E cl k):(X.env.blockKind != .function)=false:=by unfold Env.blockKind;rw[C.kind];rfl
theorem plain_any {es:List Expr}(h:es.all RF.aI=true):(es.any fun | .Starred ..=>true | _=>false)=false:=by rw[List.any_eq_false];intro e he;have:=List.all_eq_true.mp h e he;cases e<;>first | (simp[RF.aI] at this;done) | simp
theorem zh (C:eF X W Γ E cl k){ts es:List Expr}{is:List Nat}{f:Expr->RF.C D}{kk k2:Nat}{pt p2:Pos}(hi:RF.slots Γ ts=some is)(he:∀e∈es,PE X e (tE X.K W E (f e)))(hp:es.all RF.aI=true)(hz:es.length<=3)(hw:swappedStores [.Tuple ts kk pt] (.Tuple es k2 p2) X.env=pure none):
 PS X (.Assign [.Tuple ts kk pt] (.Tuple es k2 p2) pos) (tF X.K W E (RF.kF is (es.map f))):=by
 obtain⟨a1,a2,a3⟩:=fY (env:=X.env) hi;refine(wG (B7 (fb he hp)) (rL C.calm (ki C hi) rfl a2) oA hw rfl).imp λD σ H ⟨M,ρ,S,s,g⟩=>?_;have g:a4 X.K W E M H (RF.dI (RF.b8 (es.map f) ρ S) λds S1=>match RF.ic is ds ρ with | some ρ'=>.nx ρ' S1 | none=>.bad) D:=g;refine⟨M,ρ,S,s,?_⟩;cases ev:RF.b8 (es.map f) ρ S with
 | bad=>rw[ev] at g;exact g
 | ok ds S1=>
  rw[ev,RF.Di] at g;intro M1 H1 vs c1 u1 r1;have hl:=pW ev;rw[List.length_map] at hl;refine⟨by rw[<-r1.length,hl];exact Nat.le_trans hz (by decide),λp hp=>?_⟩;split at g
  .rename_i ρ' pP;have s2:Sm X.K W M1 S1 (upd H1 p (.tup vs)) ρ σ:=(s.to c1 u1).to (c1.fresh hp) (bO hp);refine⟨p,vs,rfl,cz.of az,?_,rC pP (r1.up (bO hp)) s2 λσ' s'=>g _ _ _ s' (u1.trans (bO hp))⟩;rw[<-r1.length,lP pP,a3,a1]
  .exact g.elim
theorem JB (C:eF X W Γ E cl k){x y:Str}{i j:Nat}{px py pt p2:Pos}{kk k2:Nat}{e1 e2:Expr}{f:Expr->RF.C D}(hi:RF.slot Γ x=some i)(hj:RF.slot Γ y=some j)(Dx:i≠j)(hx:Γ.sc.names.lookup x=some .local)(hy:Γ.sc.names.lookup y=some .local)
 (he:∀e∈[e1,e2],PE X e (tE X.K W E (f e))) (hp:[e1,e2].all RF.aI=true) (hw:swappedStores [.Tuple [.Name x px,.Name y py] kk pt] (.Tuple [e1,e2] k2 p2) X.env=pure (some [x,y])):
 PS X (.Assign [.Tuple [.Name x px,.Name y py] kk pt] (.Tuple [e1,e2] k2 p2) pos) (tF X.K W E (RF.kF [i,j] ([e1,e2].map f))):=by
 refine(KI C.calm C.nd (eV C hi).1 (eV C hj).1 Dx (by rw[C.sc];exact hx) (by rw[C.sc];exact hy) (fb he hp) hw oA).imp λD σ H ⟨M,ρ,S,s,g⟩=>?_;refine iw s g λM1 H1 ds vs S1 s1 u1 r1 g1=>?_
 match ds,r1,g1 with
 | [d1,d2],.cons r1 (.cons r2 .nil),g1=>exact⟨_,_,rfl,a4.nx g1 ((s1.set r1).set r2)⟩
 | [],_,g1=>exact g1.elim
 | [_],_,g1=>exact g1.elim
 | _::_::_::_,_,g1=>exact g1.elim
theorem Hx (C:eF X W Γ E cl k){x y z:Str}{i j l:Nat}{px py pz pt p2:Pos}{kk k2:Nat}{e1 e2 e3:Expr}{f:Expr->RF.C D}(hi:RF.slot Γ x=some i)(hj:RF.slot Γ y=some j)(hl:RF.slot Γ z=some l)(Dx:i≠j)(zx:i≠l)(hjl:j≠l)
 (hx:Γ.sc.names.lookup x=some .local) (hy:Γ.sc.names.lookup y=some .local) (hz:Γ.sc.names.lookup z=some .local)
 (he:∀e∈[e1,e2,e3],PE X e (tE X.K W E (f e))) (hp:[e1,e2,e3].all RF.aI=true) (hw:swappedStores [.Tuple [.Name x px,.Name y py,.Name z pz] kk pt] (.Tuple [e1,e2,e3] k2 p2) X.env=pure (some [x,y,z])):
 PS X (.Assign [.Tuple [.Name x px,.Name y py,.Name z pz] kk pt] (.Tuple [e1,e2,e3] k2 p2) pos) (tF X.K W E (RF.kF [i,j,l] ([e1,e2,e3].map f))):=by
 refine(HV C.calm C.nd (eV C hi).1 (eV C hj).1 (eV C hl).1 (by rw[C.sc];exact hx) (by rw[C.sc];exact hy) (by rw[C.sc];exact hz) (fb he hp) hw oA).imp λD σ H ⟨M,ρ,S,s,g⟩=>?_;refine iw s g λM1 H1 ds vs S1 s1 u1 r1 g1=>?_
 match ds,r1,g1 with
 | [d1,d2,d3],.cons (v:=v1) r1 (.cons (v:=v2) r2 (.cons (v:=v3) r3 .nil)),g1=>
  refine⟨_,_,_,rfl,?_⟩;have e:((σ.set l (some v3)).set j (some v2)).set i (some v1)=((σ.set i (some v1)).set j (some v2)).set l (some v3):=by rw[List.set_comm _ _ (Ne.symm hjl),List.set_comm _ _ (Ne.symm zx),List.set_comm _ _ (Ne.symm Dx)]
  rw[e];exact a4.nx g1 (((s1.set r1).set r2).set r3)
 | [],_,g1=>exact g1.elim
 | [_],_,g1=>exact g1.elim
 | [_,_],_,g1=>exact g1.elim
 | _::_::_::_::_,_,g1=>exact g1.elim
end
end L2
namespace L2
open PySem PySem.Spec PyProof.Rows
open RF (D O ae Tab)
def eM (env:Env)(ts:List Expr):List Str:=ts.filterMap fun
 | .Name id pos=>if env.kindOf id==some .local&&pos.line==((ts.head?.map (·.pos.line)).getD 0) then some id else none
 | _=>none
theorem D0 {ts es:List Expr}{kk k2:Nat}{pt p2:Pos}{env:Env}(h2:(ts.length==2||ts.length==3)=true)(hl:es.length=ts.length)(hb:(env.blockKind != .function)=false)(hp:es.all RF.aI=true)(hd:(eM env ts).eraseDups.length=(eM env ts).length):
 ((eM env ts).length≠ts.length->swappedStores [.Tuple ts kk pt] (.Tuple es k2 p2) env=pure none) /\
 (es.all (foldedForSure 8)=true->swappedStores [.Tuple ts kk pt] (.Tuple es k2 p2) env=pure none) /\
 ((eM env ts).length=ts.length->es.all (foldedForSure 8)=false->es.all (constantsAlone 8)=false->swappedStores [.Tuple ts kk pt] (.Tuple es k2 p2) env=pure (some (eM env ts))):=by
 have c1:((!(ts.length==2||ts.length==3))||es.length != ts.length||env.blockKind != .function)=false:=by rw[h2,hl,hb];simp
 have c2:=plain_any hp;have e:swappedStores [.Tuple ts kk pt] (.Tuple es k2 p2) env=(if ((eM env ts).length != ts.length||(eM env ts).eraseDups.length != (eM env ts).length)=true then pure none else
  if es.all (foldedForSure 8)=true then pure none else do
   if es.all (constantsAlone 8)=true then unsupported "assign.tuple-of-constant-expressions:order-of-the-stores"
   return some (eM env ts)):=by
  unfold swappedStores;dsimp only;simp only[c1,Bool.false_eq_true,if_false];rw[if_neg (by intro z;rw[List.any_eq_true] at z;obtain⟨e,he,z⟩:=z;have:=List.all_eq_true.mp hp e he;cases e<;>first | (simp at z;done) | (simp[RF.aI] at this))]
  rfl
 rw[e];refine⟨λz=>?_,λz=>?_,λz1 z2 z3=>?_⟩
 .rw[if_pos (by simp[z])]
 .rw[z];simp
 .rw[if_neg (by simp[z1,hd]),if_neg (by simp[z2]),if_neg (by simp[z3])]
  first | rfl | skip
section
variable {X:Cx}{W:bj}{Γ:RF.Gm}{E:XK}{cl:RF.Calls}{k:Nat}{kt:RF.d0}{a b c e:Expr}{ca cb cc:RF.C D}{pos:Pos}
def nW (env:Env)(l:Nat):Expr->Bool
 | .Name x p=>env.kindOf x==some .local&&p.line==l
 | _=>false
def nameOf:Expr->Str
 | .Name x _=>x
 | _=>Str.empty
def eW (env:Env)(l:Nat)(ts:List Expr):List Str:=ts.filterMap fun
 | .Name id pos=>if env.kindOf id==some .local&&pos.line==l then some id else none
 | _=>none
theorem ue:∀{ts:List Expr} {is:List Nat},RF.slots Γ ts=some is->∀x p,.Name x p∈ts->∃i∈is,RF.slot Γ x=some i
 | [],is,h,x,p,hm=>by cases hm
 | e::r,is,h,x,p,hm=>by
  obtain⟨y,q,i,js,rfl,h1,h2,_,rfl⟩:=c0 h;rcases List.mem_cons.mp hm with z | z
  .cases z;exact⟨i,List.mem_cons_self,h1⟩
  .obtain⟨j,hj,e⟩:=ue h2 x p z;exact⟨j,List.mem_cons_of_mem _ hj,e⟩
theorem xP {env:Env}{l:Nat}{ts:List Expr}{x:Str}(h:x∈eW env l ts):∃p,.Name x p∈ts:=by
 unfold eW at h;obtain⟨e,he,z⟩:=List.mem_filterMap.mp h;split at z
 .split at z
  .cases z;exact⟨_,he⟩
  .cases z
 .cases z
theorem m7 {env:Env}{l:Nat}{x:Str}{p:Pos}{r:List Expr}:eW env l (.Name x p::r)=if nW env l (.Name x p)=true then x::eW env l r else eW env l r:=by
 unfold eW nW;rw[List.filterMap_cons];dsimp only;split<;>rename_i h<;>split at h<;>cases h
 .rename_i h2;rw[if_neg h2]
 .rename_i h2;rw[if_pos h2]
theorem rX {env:Env}{l:Nat}:∀{ts:List Expr} {is:List Nat},RF.slots Γ ts=some is->(eW env l ts).Nodup
 | [],is,h=>List.nodup_nil
 | e::r,is,h=>by
  obtain⟨y,q,i,js,rfl,h1,h2,hni,rfl⟩:=c0 h;have ih:=rX (env:=env) (l:=l) h2;rw[m7];split
  .refine List.nodup_cons.mpr ⟨λz=>?_,ih⟩;obtain⟨p,hp⟩:=xP z;obtain⟨j,hj,e⟩:=ue h2 y p hp;rw[h1] at e;cases e;exact hni hj
  .exact ih
theorem pv {env:Env}{l:Nat}:∀{ts:List Expr} {is:List Nat},RF.slots Γ ts=some is->(eW env l ts).length<=ts.length/\((eW env l ts).length=ts.length->ts.all (nW env l)=true)/\(ts.all (nW env l)=true->eW env l ts=ts.map nameOf)
 | [],is,h=>⟨Nat.le_refl _,λ_=>rfl,λ_=>rfl⟩
 | e::r,is,h=>by
  obtain⟨y,q,i,js,rfl,h1,h2,hni,rfl⟩:=c0 h;obtain⟨a1,a2,a3⟩:=pv (env:=env) (l:=l) h2;rw[m7];split
  .rename_i hb;refine⟨by simp;exact a1,λz=>?_,λz=>?_⟩
   .rw[List.all_cons,hb,a2 (by simpa using z)];rfl
   .rw[List.all_cons,Bool.and_eq_true] at z;rw[a3 z.2];rfl
  .rename_i hb;refine⟨by simp only[List.length_cons];omega,λz=>?_,λz=>?_⟩
   .simp only[List.length_cons] at z;omega
   .rw[List.all_cons,Bool.and_eq_true] at z;exact absurd z.1 hb
theorem vn {l:List Str}(h:l.Nodup):l.eraseDups=l:=by
 induction l with
 | nil=>rfl
 | cons x xs ih=>
  obtain⟨h1,h2⟩:=List.nodup_cons.mp h;rw[List.eraseDups_cons];have:(xs.filter λb=>!b==x)=xs:=by rw[List.filter_eq_self];intro y hy;have:y≠x:=λz=>h1 (z ▸ hy);simpa using this
  rw[this,ih h2]
theorem Fy (C:eF X W Γ E cl k){ts:List Expr}{l:Nat}:ts.all (RF.Gq Γ l)=ts.all (nW X.env l):=by
 congr 1
 funext t
 cases t<;>first | rfl | skip
 show (Γ.sc.names.lookup _==_&&_)=(X.env.scope.names.lookup _==_&&_);rw[C.sc]
theorem JR (C:eF X W Γ E cl k){ts es:List Expr}{is:List Nat}{f:Expr->RF.C D}{kk k2:Nat}{pt p2:Pos}(hi:RF.slots Γ ts=some is)(he:∀e∈es,PE X e (tE X.K W E (f e)))(hp:es.all RF.aI=true)(h2:es.length=2\/es.length=3)(hl:es.length=ts.length)(hs:(RF.Au Γ ts es).isSome=true):
 PS X (.Assign [.Tuple ts kk pt] (.Tuple es k2 p2) pos) (tF X.K W E (RF.kF is (es.map f))):=by
 have h3:(ts.length==2||ts.length==3)=true:=by rw[<-hl];rcases h2 with z | z<;>simp[z]
 have nd:=rX (env:=X.env) (l:=((ts.head?.map (·.pos.line)).getD 0)) hi;obtain⟨b1,b2,b3⟩:=pv (env:=X.env) (l:=((ts.head?.map (·.pos.line)).getD 0)) hi;obtain⟨g1,g2,g3⟩:=D0 (kk:=kk) (k2:=k2) (pt:=pt) (p2:=p2) h3 hl (LJ C) hp (by show (eW X.env _ ts).eraseDups.length=_;rw[vn nd];rfl);have hz:es.length<=3:=by rcases h2 with z | z<;>omega
 unfold RF.Au at hs;rw[Fy C] at hs;split at hs
 .rename_i hn;exact zh C hi he hp hz (g1 λz=>by rw[b2 z] at hn;cases hn)
 .rename_i hn;have fS:ts.all (nW X.env ((ts.head?.map (·.pos.line)).getD 0))=true:=by simpa using hn
  split at hs
  .rename_i hf;exact zh C hi he hp hz (g2 hf)
  .rename_i hf;split at hs
   .cases hs
   .rename_i hcn;have DH:eM X.env ts=ts.map nameOf:=b3 fS;have hw:=g3 (by rw[DH];simp) (by simpa using hf) (by simpa using hcn);rw[DH] at hw;have loc:∀(l:Nat) (x:Str) (p:Pos),nW X.env l (.Name x p)=true->Γ.sc.names.lookup x=some .local:=λl x p z=>by unfold nW at z;rw[Bool.and_eq_true] at z;have:=eq_of_beq z.1;have this:X.env.scope.names.lookup x=some .local:=this;rw[C.sc] at this;exact this
    match ts,es,hl,h2,hi,fS,hw,he,hp with
    | [t1,t2],[e1,e2],_,_,hi,fS,hw,he,hp=>obtain⟨x,p,i,js,rfl,k1,zy,k3,rfl⟩:=c0 hi;obtain⟨y,q,j,ks,rfl,l1,l2,l3,rfl⟩:=c0 zy;cases l2;simp only[List.all_cons,Bool.and_eq_true] at fS;exact JB C k1 l1 (λz=>k3 (by simp[z])) (loc _ _ _ fS.1) (loc _ _ _ fS.2.1) he hp hw
    | [t1,t2,t3],[e1,e2,e3],_,_,hi,fS,hw,he,hp=>obtain⟨x,p,i,js,rfl,k1,zy,k3,rfl⟩:=c0 hi;obtain⟨y,q,j,ks,rfl,l1,l2,l3,rfl⟩:=c0 zy;obtain⟨z,r,l,ms,rfl,m1,m2,m3,rfl⟩:=c0 l2;cases m2;simp only[List.all_cons,Bool.and_eq_true] at fS;exact Hx C k1 l1 m1 (λz=>k3 (by simp[z])) (λz=>k3 (by simp[z])) (λz=>l3 (by simp[z])) (loc _ _ _ fS.1) (loc _ _ _ fS.2.1) (loc _ _ _ fS.2.2.1) he hp hw
    | [],[],hl,h2,_,_,_,_,_=>rcases h2 with z | z<;>simp at z
    | [_],[_],hl,h2,_,_,_,_,_=>rcases h2 with z | z<;>simp at z
    | _::_::_::_::_,_::_::_::_::_,hl,h2,_,_,_,_,_=>rcases h2 with z | z<;>simp at z
end
end L2
namespace L2
open PySem PySem.W PyProof.Rows
section
variable {X:Cx}
theorem wQ:isSeqSlot (some (.builtin "list.__iadd__"))=true:=by decide +kernel
theorem Fz:fillsInplaceSlot (.type "list") "add" true=pure false:=by unfold fillsInplaceSlot;dsimp only;rw[F.slot_list_iadd.lookup];show (pure ((some (Value.builtin "list.__iadd__")).isSome && !isSeqSlot (some (.builtin "list.__iadd__"))):Sem Bool)=_;rw[wQ];rfl
def NX:GY:=λx y H Q=>∃l b xs zs,x = .ref l/\y = .ref b/\H l=some (.lst xs)/\H b=some (.lst zs)/\xs.length+zs.length<=sizeLine/\Q (.ref l) (upd H l (.lst (xs++zs)))
theorem K6:Ow X .Add NX:=by
 intro pins s σ H x y v u Q I r1 r2 h;obtain⟨l,b,xs,zs,rfl,rfl,hH,hB,hz,q⟩:=h;cases r1;cases r2;obtain⟨z,ai,n,r,hl,e⟩:=I.kK hH;obtain⟨z2,dH,n2,r2,xG,e2⟩:=I.kK hB;have hsz:ai.toArray.size+dH.toArray.size<=sizeLine:=by rw[List.size_toArray,List.size_toArray];omega
 have sj:¬(!ai.toArray.isEmpty&&Builtin.List.listTooLong (ai.toArray.size+dH.toArray.size))=true:=by rw[qr hsz,Bool.and_false];exact Bool.false_ne_true
 unfold inplaceOp;refine wpAny_holding (wpAny_bind (wpAny_typeOf (T:="list") ⟨_,e,rfl⟩ ?_));show wpAny _ _ (fillsInplaceSlot (.type "list") "add" true >>= _) _ _ _;rw[Fz];refine wpAny_bind (wpAny_pure ?_);refine wpAny_bind (binaryOp1_none (T:="list") ⟨_,e,rfl⟩ ⟨_,e2,rfl⟩ noFill_list_add ?_);show wpAny _ _ (seqSlot? (.type "list") (dunderI "add") >>= _) _ _ _;rw[PySem.seqSlot_of F.slot_list_iadd.lookup wQ];refine wpAny_bind (wpAny_pure (wpAny_bind (wpAny_rule ?_)));refine call_meets F.slot_list_iadd ⟨_,e,rfl⟩ F.entry_list_iadd (F.args_list_iadd_2 _ _)
  (AutoSeq1.list___iadd___list_list_0 l ai.toArray n b dH.toArray n2 sj (by rw[List.size_toArray];omega) (by omega)) ⟨e,e2,?_⟩
 refine⟨.ref l,_,I.xc (its':=ai++dH) hH e (by simp) (r.append r2) ?_,rfl,q⟩;rw[List.length_append];omega
end
end L2
namespace L2
open PySem PySem.Spec PyProof.Rows
open RF (D O ae Tab)
section
variable {X:Cx}{W:bj}{Γ:RF.Gm}{E:XK}{cl:RF.Calls}{k:Nat}{kt:RF.d0}{a b c e:Expr}{ca cb cc:RF.C D}{pos:Pos}
theorem IB {K:Fg}{M:List Addr}{H:Hp}{W:bj}{cc:Nat}(nd:W.T.cQ.Nodup){fs:List (Nat×D)}{gs:List (Str×V)}(h:Paired (λ(p:Nat×D) (q:Str×V)=>(W.T.cQ[p.1]?=some q.1/\W.T.plain cc p.1=true)/\au M H p.2 q.2) fs gs){f:Nat}{x:Str}(hx:W.T.cQ[f]?=some x)(hp:W.T.plain cc f=true){d:D}{v:V}(r:au M H d v):
 Paired (λ(p:Nat×D) (q:Str×V)=>(W.T.cQ[p.1]?=some q.1/\W.T.plain cc p.1=true)/\au M H p.2 q.2) (RF.eg f d fs) (fu x v gs):=by
 induction h with
 | nil=>exact .cons ⟨⟨hx,hp⟩,r⟩ .nil
 | @cons p q fs gs r1 t ih=>
  obtain⟨pf,pd⟩:=p;obtain⟨qf,qv⟩:=q;unfold RF.eg fu
  by_cases e:pf=f
  .subst e;have e2:qf=x:=Option.some.inj (r1.1.1.symm.trans hx);subst e2;rw[if_pos rfl,if_pos rfl];exact .cons ⟨r1.1,r⟩ t
  .have e2:¬qf=x:=λz=>e (by subst z;exact(List.getElem?_inj (List.getElem?_eq_some_iff.mp r1.1.1).1 nd).mp (r1.1.1.trans hx.symm));rw[if_neg e,if_neg e2];exact .cons r1 ih
theorem KH (C:eF X W Γ E cl k){f:Str}{i:Nat}{pf:Pos}(hi:RF.b9 W.T.cQ f=some i)(ho:PE X a (tE X.K W E ca))(he:PE X e (tE X.K W E cb)):PS X (.Assign [.Attribute a f pf] e pos) (tF X.K W E (RF.eT W.T.plain ca i cb)):=by
 refine(Kt ho he (jI λ_ _ z=>by cases z)).imp λD σ H ⟨M,ρ,S,s,g⟩=>?_;refine iw s g λM1 H1 d v S1 s1 u1 r1 g1=>iw s1 g1 λM2 H2 x u S2 s2 u2 r2 g2=>?_;unfold RF.iV at g2;split at g2
 .rename_i n;split at g2
  .rename_i cc fs hS;unfold RF.aB at g2;split at g2
   .rename_i hz;rw[Bool.and_eq_true,decide_eq_true_eq] at hz;obtain⟨p,rfl,ea⟩:=bw r2;obtain⟨dx,gs,h1,hc,h2⟩:=s2.con.at_ n _ p hS ea;have nt:c7 (H2 p):=dN h1 rfl;refine⟨p,W.c cc,dx,gs,rfl,h1,C.top.xK cc hc,C.top.plain cc i f hc hz.2 (cK hi),by rw[<-Paired.length h2];omega,?_⟩;have h3:=IB (K:=X.K) s2.con.sk h2 (cK hi) hz.2 (r1.up u2);have c3:Cn X.K W M2 (S2.set n (.obj cc (RF.eg i d fs))) (upd H2 p (.ins (W.c cc) dx (fu f v gs))):=s2.con.put hS ea rfl rfl nt ⟨dx,_,az,hc,Paired.nS h3 λ_ _ z=>⟨z.1,z.2.up (aO nt)⟩⟩;exact a4.nx (a4.up g2 (aO nt)) (s2.to c3 (aO nt))
   .exact g2.elim
  .exact g2.elim
 .exact g2.elim
def Nq:sH:=λo i v H Q=>∃a H' H4,o = .ref a/\(H'=H\/kh H a H')/\mZ H' a i v H4/\Q H4
theorem set_dict (hu:X.A.units+1<cLine):ng X Nq:=by
 intro pins s σ H o i v ov iv u Q I ro ri rv h;obtain⟨a,H',H4,rfl,hr,g,q⟩:=h;cases ro;have I':Inv X pins σ H' s:=by
  rcases hr with rfl | hr
  .exact I
  .exact I.ret hr
 exact BS hu I' g ri rv λs4 I4=>⟨H4,I4,q⟩
def N8 (hs:bc->Int):sH:=λo i v H Q=>∃a b k xs,o = .ref a/\i = .ref b/\fv H k b/\(((H a=some (.dK [])\/H a=some (.dT []))/\xs=[])\/∃af,H a=some (PD hs a xs)/\KP H af xs/\xs.length<sizeLine)/\∀r,RelV v r->Q (upd H a (PD hs a (storedH xs k b r)))
theorem E4 (hu:X.A.units+2<cLine):ng X (N8 (dE X.prog X.w)):=by
 intro pins s σ H o i v ov iv u Q I ro ri rv h;obtain⟨a,b,k,xs,rfl,rfl,hb,hd,q⟩:=h;cases ro;cases ri;rcases hd with⟨he,rfl⟩|⟨af,he,rel,hz⟩
 .obtain⟨h0,dd⟩:=qM I he;refine Bo hu I ?_ ?_ h0 dd (by decide) hb rv λs4 I4=>⟨_,I4,q u rv⟩
  .rcases he with he | he<;>(rw[he];exact True.intro)
  .rcases he with he | he<;>(rw[he];exact λ_ z=>by cases z)
 .obtain⟨h0,_,dd⟩:=Gx I.aw he rel;refine Bo hu I (by rw[he];exact True.intro) (by rw[he];exact λ_ z=>by cases z) h0 dd hz hb rv λs4 I4=>⟨_,I4,q u rv⟩
theorem ng.or {t t':sH}(h:ng X t)(h':ng X t'):ng X (λo i v H Q=>t o i v H Q\/t' o i v H Q):=λpins s σ H o i v ov iv u Q I ro ri rv q=>q.elim (h pins s σ H o i v ov iv u Q I ro ri rv) (h' pins s σ H o i v ov iv u Q I ro ri rv)
theorem Iq {o i:Expr}{p:Pos}{env:Env}(h:RF.eX i=true)(v:Value):assign (.Subscript o i p) env v=(do
 let ov <-holding [v] (eval o env)
 let iv <-holding [v,ov] (eval i env)
 standAt p
 holding [v,ov,iv] (setItem ov iv v)
 release [v,ov,iv] []):=by
 cases i<;>first | rfl | (simp[RF.eX] at h)
theorem Kq (C:eF X W Γ E cl k){ps:Pos}(ho:PE X a (tE X.K W E ca))(hi:PE X b (tE X.K W E cb))(he:PE X e (tE X.K W E cc))(hs:RF.eX b=true):PS X (.Assign [.Subscript a b ps] e pos) (tF X.K W E (RF.fJ ca cb cc)):=by
 refine(wG he (MI ho hi (set_list.or ((set_dict C.B9).or (E4 C.mU))) (Iq hs)) (by show swapsWith e (some (.Subscript a b ps)) pos.line X.env=pure false;exact jI λ_ _ z=>by cases z) (by cases e<;>rfl) rfl).imp λD σ H ⟨M,ρ,S,s,g⟩=>?_
 refine iw s g λM1 H1 d v S1 s1 u1 r1 g1=>iw s1 g1 λM2 H2 x u S2 s2 u2 r2 g2=>iw s2 g2 λM3 H3 i w S3 s3 u3 r3 g3=>?_;have rx:=r2.up u3;have rd:=(r1.up u2).up u3;unfold RF.dF at g3;split at g3
 .rename_i n;obtain⟨p,rfl,ea⟩:=bw rx;split at g3
  .rename_i xs kk hS;split at g3
   .rename_i j hj;cases r3;obtain⟨vs,h1,h2⟩:=s3.con.lst hS ea;have nt:c7 (H3 p):=dN h1 rfl;refine .inl ⟨p,vs,kk,j,rfl,rfl,h1,by rw[<-h2.length];exact hj,?_⟩;exact a4.nx (a4.up g3 (aO nt)) (s3.to (s3.con.put hS ea rfl rfl nt ⟨_,az,(h2.set rd j).up (aO nt)⟩) (aO nt))
   .exact g3.elim
  .rename_i af hS;split at g3
   .rename_i hk;unfold RF.aB at g3;split at g3
    .rename_i hz;have hz:=List.isEmpty_iff.mp hz;subst hz;obtain⟨q,rfl⟩:=jA hk;obtain⟨bq,rfl,ka⟩:=n9 r3;have he:H3 p=some (.dK [])\/H3 p=some (.dT []):=by
      rcases s3.con.at_ n _ p hS ea with⟨ks,h1,h2⟩|⟨ts,h1,h2⟩
      .cases h2;exact .inl h1
      .cases h2;exact .inr h1
     have nt:c7 (H3 p):=by rcases he with he | he<;>exact dN he rfl
     have tp:∀c ys,H3 c=some (.tup ys)->∀o,upd H3 p o c=some (.tup ys):=λc ys e o=>by rw[ax (λz=>by subst z;rcases he with he | he<;>(rw[he] at e;cases e))];exact e
     refine .inr (.inr ⟨p,bq,q,[],rfl,rfl,ka,.inl ⟨he,rfl⟩,λr rr=>?_⟩);rw[<-C.tobV.top.ph];refine a4.nx (a4.up g3 (aO nt)) (s3.to (s3.con.put hS ea rfl rfl nt ⟨[(q,bq,r)],[(q,v)],az,?_,?_⟩) (aO nt))
     .exact .cons ⟨rfl,ka.keeps λc ys e=>tp c ys e _,rr⟩ .nil
     .exact .cons ⟨rfl,rd.up (aO nt)⟩ .nil
    .exact g3.elim
   unfold RF.aB at g3;split at g3
   .rename_i hz;rw[Bool.and_eq_true,decide_eq_true_eq] at hz;obtain⟨H',hr,c',u',gd⟩:=pS s3.con hS ea hz.1 r3;have rd':=rd.up u';rcases gd with⟨ks,q,q1,q2,rfl,rfl⟩|⟨ts,q,bq,q1,q2,rfl,rfl,q3⟩
    .have nt:c7 (H' p):=dN q1 rfl;refine .inr (.inl ⟨p,H',_,rfl,hr,mZ.k q1 (by rw[<-Paired.length q2];exact hz.2),?_⟩);exact a4.nx (a4.up g3 (u'.trans (aO nt))) (s3.to (c'.put hS ea rfl rfl nt (.inl ⟨_,az,Paired.up (qt (λ_ _=>jc) q2 rd') (aO nt)⟩)) (u'.trans (aO nt)))
    .have nt:c7 (H' p):=dN q1 rfl;refine .inr (.inl ⟨p,H',_,rfl,hr,mZ.t q1 q3 (by rw[<-Paired.length q2];exact hz.2),?_⟩);exact a4.nx (a4.up g3 (u'.trans (aO nt))) (s3.to (c'.put hS ea rfl rfl nt (.inr ⟨_,az,Paired.up (qt (λ_ _=>dJ) q2 rd') (aO nt)⟩)) (u'.trans (aO nt)))
   .exact g3.elim
  .rename_i af hS;unfold RF.aB at g3;split at g3
   .rename_i hz;rw[Bool.and_eq_true,decide_eq_true_eq] at hz;obtain⟨q,rfl⟩:=jA hz.1;obtain⟨bq,rfl,ka⟩:=n9 r3;obtain⟨xs,ps,h1,h2,h3⟩:=s3.con.at_ n _ p hS ea;have nt:c7 (H3 p):=dN h1 rfl;have tp:∀c ys,H3 c=some (.tup ys)->∀o,upd H3 p o c=some (.tup ys):=λc ys e o=>by rw[ax (λz=>by subst z;rw[h1] at e;cases e)];exact e
    have hl:xs.length<sizeLine:=by rw[<-Paired.length h2,<-Paired.length h3];exact hz.2
    rw[C.tobV.top.ph] at h1;refine .inr (.inr ⟨p,bq,q,xs,rfl,rfl,ka,.inr ⟨ps,h1,h2,hl⟩,λr rr=>?_⟩);rw[<-C.tobV.top.ph];refine a4.nx (a4.up g3 (aO nt)) (s3.to (s3.con.put hS ea rfl rfl nt ⟨_,_,az,(h2.put q ka rr).keeps λc ys e=>tp c ys e _,Paired.up (qt (λ_ _=>qK) h3 rd) (aO nt)⟩) (aO nt))
   .exact g3.elim
  .exact g3.elim
 .exact g3.elim
def Ki (td ty:TE):TS:=λD σ H=>td σ H λx H1=>ty σ H1 λy H2=>(∃a b af k v,x = .ref a/\y = .ref b/\H2 a=some (.dT af)/\H2 b=some (.tup (k.map kV))/\cX af k=some v/\D.nx σ (upd H2 a (.dT (dA af k)))) \/
 ∃a af k,x = .ref a/\H2 a=some (.dK af)/\y=kV k/\(cX af k).isSome=true/\D.nx σ (upd H2 a (.dK (dA af k)))
theorem D1 {td ty:TE}{o i:Expr}{Be:Pos}(hu:X.A.units+2<cLine)(ho:PE X o td)(hi:PE X i ty):PS X (.Delete [.Subscript o i Be] pos) (Ki td ty):=by
 intro pins s σ H D I h;refine wpAny_Delete (wpAny_deleteEach_cons (wpAny_delete_Subscript (aK (ho pins s σ H _ I h) λu s1 ⟨x,H1,I1,rx,q1⟩=>aK (hi pins s1 σ H1 _ I1 q1) λiv s2 ⟨y,H2,I2,ry,q⟩=>?_)));rcases q with⟨a,b,af,k,v,rfl,rfl,e,eb,l,q2⟩|⟨a,af,k,rfl,e,rfl,l,q2⟩
 .obtain rfl:u=Value.ref a:=rx;obtain rfl:iv=Value.ref b:=ry;exact ML hu I2 e eb l λs' I'=>wpAny_deleteEach_nil ⟨σ,_,I',q2⟩
 .obtain rfl:u=Value.ref a:=rx;exact Dg I2 e ry l λs' I'=>wpAny_deleteEach_nil ⟨σ,_,I',q2⟩
theorem K7 (C:eF X W Γ E cl k){ps:Pos}(ho:PE X a (tE X.K W E ca))(hi:PE X b (tE X.K W E cb)):PS X (.Delete [.Subscript a b ps] pos) (tF X.K W E (RF.ma ca cb)):=by
 refine(D1 C.mU ho hi).imp λD σ H ⟨M,ρ,S,s,g⟩=>?_;refine iw s g λM1 H1 x u S1 s1 u1 r1 g1=>iw s1 g1 λM2 H2 y w S2 s2 u2 r2 g2=>?_;have rx:=r1.up u2;unfold RF.jV at g2;split at g2
 .rename_i n;obtain⟨p,rfl,ea⟩:=bw rx;split at g2
  .rename_i af hS;unfold RF.aB at g2;split at g2
   .rename_i hz;rw[Bool.and_eq_true] at hz;obtain⟨hf,hv⟩:=hz;unfold RF.bX at hf;simp only[Bool.or_eq_true,Bool.and_eq_true] at hf;rcases s2.con.at_ n _ p hS ea with⟨ks,h1,h2⟩|⟨ts,h1,h2⟩
    .rcases hf with⟨f1,_⟩|⟨f1,_⟩
     .obtain⟨q,rfl⟩:=jz f1;have nt:c7 (H2 p):=dN h1 rfl;rcases fR (λ_ _=>jc) h2 q with⟨z1,_⟩|⟨d,v,z1,z2,z3⟩
      .rw[z1] at hv;cases hv
      .refine .inr ⟨p,ks,q,rfl,h1,rg r2,by rw[z2];rfl,?_⟩;exact a4.nx (a4.up g2 (aO nt)) (s2.to (s2.con.put hS ea rfl rfl nt (.inl ⟨_,az,Paired.up (vO (λ_ _=>jc) h2 q) (aO nt)⟩)) (aO nt))
     .rw[mS (gN h2) (kG f1)] at hv;cases hv
    .rcases hf with⟨f1,_⟩|⟨f1,_⟩
     .rw[mS (wR h2) (gz f1)] at hv;cases hv
     .obtain⟨q,rfl⟩:=gR f1;have nt:c7 (H2 p):=dN h1 rfl;obtain⟨bq,vs,rfl,ka,hs⟩:=cD r2;rw[lx hs] at ka;rcases fR (λ_ _=>dJ) h2 q with⟨z1,_⟩|⟨d,v,z1,z2,z3⟩
      .rw[z1] at hv;cases hv
      .refine .inl ⟨p,bq,ts,q,v,rfl,rfl,h1,ka,z2,?_⟩;exact a4.nx (a4.up g2 (aO nt)) (s2.to (s2.con.put hS ea rfl rfl nt (.inr ⟨_,az,Paired.up (vO (λ_ _=>dJ) h2 q) (aO nt)⟩)) (aO nt))
   .exact g2.elim
  .exact g2.elim
 .exact g2.elim
theorem LU (C:eF X W Γ E cl k){x:Str}{i:Nat}{px:Pos}(hi:RF.slot Γ x=some i)(he:PE X e (tE X.K W E ca)):PS X (.AugAssign (.Name x px) .Add e pos) (tF X.K W E (RF.qb i ca)):=by
 obtain⟨h1,h2⟩:=eV C hi;refine(J0 C.nd h1 h2 he K6 (.inl (C.fn x))).imp λD σ H ⟨M,ρ,S,s,g⟩=>?_;unfold RF.qb at g;split at g
 .rename_i n hr;obtain⟨v,k1,k2⟩:=s.env i _ hr;obtain⟨p,rfl,ea⟩:=bw k2;refine⟨_,k1,iw s g λM1 H1 y w S1 s1 u1 r1 g1=>?_⟩;have ea1:=dY u1.pre ea;unfold RF.iL at g1;split at g1
  .rename_i xs m fV e1;cases e1;split at g1
   .rename_i zs hS3;unfold RF.aB at g1;split at g1
    .rename_i hz;obtain⟨uJ,k1',zy⟩:=s1.con.lst fV ea1;obtain⟨p3,vs3,rfl,ea3,k3,k4⟩:=fX s1.con hS3 r1;refine⟨p,p3,uJ,vs3,rfl,rfl,k1',k3,by rw[<-zy.length,<-k4.length];exact of_decide_eq_true hz,?_⟩;have nt:c7 (H1 p):=dN k1' rfl;have:=a4.nx (a4.up g1 (aO nt)) (s1.to (s1.con.put fV ea1 rfl rfl nt ⟨_,az,(zy.append k4).up (aO nt)⟩) (aO nt));dsimp only
     rwa [show σ.set i (some (V.ref p))=σ by obtain⟨j1,j2⟩:=List.getElem?_eq_some_iff.mp k1;rw[<-j2];simp]
    .exact g1.elim
   .exact g1.elim
  .exact g1.elim
 .exact g.elim
theorem zd {K:Fg}{M:List Addr}{S:ae}{H:Hp}{ρ:RF.Env}{chk:ae->Bool}{is:List Nat}{one:Bool}{b:RF.CS}{l:List D}{D:Ends}(g:a4 K W E M H (RF.e6 chk is one b l ρ S) D):chk S=true:=by
 cases h:chk S with
 | true=>rfl
 | false=>
  exfalso;cases l with
  | nil=>unfold RF.e6 at g;rw[h] at g;exact g
  | cons x xs=>unfold RF.e6 at g;rw[h] at g;exact g
theorem oI {J:It}{items:List D}{chk:ae->Bool}{ok:List Addr->ae->Hp->Prop}(wk:Wk X.K W J items chk ok){is:List Nat}{one:Bool}{b:RF.CS}{gt:TG}(hg:lW X W is one gt){D:Ends}{M:List Addr}{S:ae}{H:Hp}{ρ:RF.Env}{σ:St}(sm:Sm X.K W M S H ρ σ)(aw:ok M S H)
 (g:a4 X.K W E M H (RF.e6 chk is one b items ρ S) D):∃Wv:Nat->Nat->St->Hp->Prop,(∃m,Wv 0 m σ H)/\∀i m σ H,Wv i m σ H ->
   (J.stop i H/\D.nx σ H)\/(J.go i H/\∃N:St->Hp->Prop,(∀σ' H',N σ' H'->∃m',m'<m/\Wv (i+1) m' σ' H')/\∀x H',J.xB i H x H'->gt x σ H' λσ2 H2=>tF X.K W E b { D with nx:=N,ct:=N,bk:=D.nx } σ2 H2):=by
 refine⟨λi m σ H=>m=items.length-i/\i<=items.length/\∃M S ρ,Sm X.K W M S H ρ σ/\ok M S H/\a4 X.K W E M H (RF.e6 chk is one b (items.drop i) ρ S) D,⟨items.length,by simp,Nat.zero_le _,M,S,ρ,sm,aw,by rw[List.drop_zero];exact g⟩,?_⟩;rintro i m σ H ⟨rfl,hi,M,S,ρ,sm,aw,g⟩;have hc:=zd g;rcases Nat.lt_or_ge i items.length with de | zw
 .obtain⟨go,yl⟩:=wk.go i M S H sm.con aw de;refine .inr ⟨go,λσ' H'=>items.length-(i+1)=items.length-(i+1)/\i+1<=items.length/\∃M S ρ,Sm X.K W M S H' ρ σ'/\ok M S H'/\a4 X.K W E M H' (RF.e6 chk is one b (items.drop (i+1)) ρ S) D,λσ' H' z=>⟨items.length-(i+1),by omega,z⟩,λx H' y=>?_⟩;obtain⟨rfl,d,hd,rd⟩:=yl x H' y;have ed:items.drop i=d::items.drop (i+1):=by
   rw[List.drop_eq_getElem_cons de]
   congr 1
   rw[List.getElem?_eq_getElem de] at hd;exact Option.some.inj hd
  rw[ed] at g;unfold RF.e6 at g;rw[if_pos hc] at g;split at g
  .rename_i ρ1 ht;refine hg M S H' ρ ρ1 σ d x _ sm rd ht λσ1 s1=>⟨M,ρ1,S,s1,?_⟩;have next:∀{ρ2 S2},a4 X.K W E M H' (RF.e6 chk is one b (items.drop (i+1)) ρ2 S2) D->∀M' H2 σ2,Sm X.K W M' S2 H2 ρ2 σ2->Up M H' M' H2 ->
    items.length-(i+1)=items.length-(i+1)/\i+1<=items.length/\∃M S ρ,Sm X.K W M S H2 ρ σ2/\ok M S H2/\a4 X.K W E M H2 (RF.e6 chk is one b (items.drop (i+1)) ρ S) D:=λ{ρ2 S2} g M' H2 σ2 s2 u2=>
    ⟨rfl,de,M',S2,ρ2,s2,wk.keep M S H' M' S2 H2 aw u2 s2.con (zd g),a4.up g u2⟩
   cases ev:b ρ1 S with
   | nx ρ2 S2=>rw[ev] at g;exact next g
   | ct ρ2 S2=>rw[ev] at g;exact next g
   | bk ρ2 S2=>rw[ev] at g;exact g
   | rt d S2=>rw[ev] at g;exact g
   | bad=>rw[ev] at g;exact g
  .exact g.elim
 .have ei:i=items.length:=by omega
  subst ei;refine .inl ⟨wk.stop _ M S H sm.con aw (Nat.le_refl _),?_⟩;rw[List.drop_length] at g;unfold RF.e6 at g;rw[if_pos hc] at g;exact a4.nx g sm
end
end L2
namespace L2
open PySem PySem.Spec PyProof.Rows
open RF (D O ae Tab)
section
variable {X:Cx}{W:bj}{Γ:RF.Gm}{E:XK}{cl:RF.Calls}{k:Nat}{kt:RF.d0}{a b c e:Expr}{ca cb cc:RF.C D}{pos:Pos}
theorem a4.p4 {K:Fg}{M:List Addr}{H:Hp}{r:RF.F}{D:Ends}(h:a4 K W E M H (r) D):a4 K W E0 M H r D:=by
 cases r with
 | nx ρ S=>exact h
 | bk ρ S=>exact h
 | ct ρ S=>exact h
 | rt d S=>exact h
 | bad=>exact h
theorem Cz (C:eF X W Γ E cl k)(KO:dD kt W.T cl k){tg it:Expr}{body:List Stmt}{src:RF.Src}{is:List Nat}{one:Bool}{bd:RF.CS}{gt:TG}(hs:RF.srcOf W.T kt Γ it=some src)(hG:PG X.cV tg gt)(zt:lW X W is one gt)(hb:iy X.cV body (tF X.K W E0 bd)):
 PS X (.For tg it body [] pos) (tF X.K W E (RF.fh src is one bd)):=by
 refine PS.cV ?_;have CN:=C.cV;intro pins st σ H D I ⟨M,ρ,S,sm,g⟩;have g:a4 X.K W E0 M H (RF.EV src is one bd ρ S) D:=a4.p4 g;have dyn:∀{it:Expr} {src:RF.Src},(if RF.dR it=true then some (RF.Src.dyn (kt.e Γ it)) else none)=some src->a4 X.K W E0 M H (RF.EV src is one bd ρ S) D->wpAny (model X.cV.prog X.cV.w) X.cV.A (exec (.For tg it body [] pos) X.cV.env) (SP X.cV pins D) X.cV.xe st:=λ{it src} h g=>by
  split at h
  .rename_i hn;cases h;have fold:∀v,foldedSetIterable it X.cV.env v=pure v:=λv=>by cases it<;>first | rfl | (simp[RF.dR] at hn)
   have hl:=KO.e rfl CN.tobV it;have g:a4 X.K W E0 M H (RF.dI (kt.e Γ it ρ S) λx S1=>RF.s9 is one bd x ρ S1) D:=g;cases ev:kt.e Γ it ρ S with
   | bad=>rw[ev] at g;exact g.elim
   | ok y S1=>
    rw[ev,RF.Di] at g;have lst:∀{n:Nat} {xs:List RF.D},y = .ref n->RF.itemsOf S1 (.ref n)=some xs->a4 X.K W E0 M H (RF.BN (.ref n) xs is one bd xs ρ S1) D->wpAny (model X.cV.prog X.cV.w) X.cV.A (exec (.For tg it body [] pos) X.cV.env) (SP X.cV pins D) X.cV.xe st:=λ{n xs} ey hi g0=>by refine mW (X:=X.cV) PassesOwn.never C.calm (qd hl) hG hb fold pins st σ H D I (ee sm ev λM1 H1 u s1 u1 r1=>?_);rw[ey] at r1;obtain⟨p,rfl,ea⟩:=bw r1;obtain⟨vs,h1,h2⟩:=s1.con.items hi ea;exact⟨p,rfl,⟨vs,h1⟩,λhz=>oI (X:=X) sv zt s1 ⟨ea,hi⟩ (a4.up g0 u1)⟩
    cases y with
    | ref n=>
     unfold RF.s9 at g;dsimp only at g;split at g
     .rename_i xs hS;exact lst rfl (by unfold RF.itemsOf;dsimp only;rw[hS]) g
     .rename_i af hS;split at g
      .rename_i hk;refine yZ (mW (X:=X.cV) PassesOwn.never C.calm (wo hl) hG hb fold) pins st σ H D I (ee sm ev λM1 H1 u s1 u1 r1=>?_);obtain⟨p,rfl,ea⟩:=bw r1;obtain⟨H2,ts,hr,c2,u2,e2,h2⟩:∃H2 ts,(H2=H1\/kh H1 p H2)/\Cn X.K W M1 S1 H2/\Up M1 H1 M1 H2/\H2 p=some (.dT ts)/\Paired (cm ofKeys M1 H2) af ts:=by
        rcases s1.con.at_ n _ p hS ea with⟨ks,h1,h2⟩|⟨ts,h1,h2⟩
        .have:=all_nil (gN h2) hk (λk=>gz);subst this;cases h2;have re:kh H1 p (upd H1 p (.dT [])):=.inl ⟨h1,rfl⟩;obtain⟨c',u'⟩:=s1.con.ret hS ea re;exact⟨_,[],.inr re,c',u',az,.nil⟩
        .exact⟨H1,ts,.inl rfl,s1.con,Up.refl _ _,h1,h2⟩
       refine⟨p,ts,H2,rfl,hr,e2,λod hz=>?_⟩;have n0:∀o u,X.cV.H₀ p≠some (.bQ o u):=λo u z=>by have:=u2.da _ _ _ (u1.da _ _ _ (I.base.da p o u z));rw[e2] at this;cases this
       have c3:Cn X.K W M1 (S1.set n (.dC af)) (upd H2 p (.bQ od (.dT ts))):=c2.bQ hS ea e2 h2;have u3:Up M1 H2 M1 (upd H2 p (.bQ od (.dT ts))):=aO (dN e2 rfl);have s3:Sm X.K W M1 (S1.set n (.dC af)) (upd H2 p (.bQ od (.dT ts))) ρ σ:=s1.to c3 (u2.trans u3);have g3:a4 X.K W E0 M1 H1 (RF.Af n (RF.forL is one bd (af.map (·.1)) ρ (S1.set n (.dC af)))) D:=a4.up g u1;refine oI (X:=X) (y4 (Paired.length h2) (keysAt h2)) zt s3 az ?_;show a4 X.K W E0 _ _ (RF.forL is one bd (af.map (·.1)) ρ (S1.set n (.dC af))) _;cases er:RF.forL is one bd (af.map (·.1)) ρ (S1.set n (.dC af)) with
       | nx ρ4 S4=>
        rw[er] at g3;intro M4 H4 σ4 s4 u4;have e4:H4 p=some (.bQ od (.dT ts)):=u4.da _ _ _ az;refine⟨p,od,ts,e4,n0,?_⟩;unfold RF.Af at g3;dsimp only at g3;split at g3
        .rename_i cF hS4;have c5:=s4.con.wH hS4 (dY u4.pre ea) e4;exact g3 M4 _ σ4 ⟨c5,λi d e=>let ⟨v,z1,z2⟩:=s4.env i d e;⟨v,z1,z2.d7 (jG λxs z=>by rw[e4] at z;cases z)⟩,s4.len⟩ (u2.trans (y9 (o:=.dT ts) e2 u4))
        .exact g3.elim
       | rt d S4=>rw[er] at g3;exact g3.elim
       | bk ρ4 S4=>rw[er] at g3;exact g3.elim
       | ct ρ4 S4=>rw[er] at g3;exact g3.elim
       | bad=>rw[er] at g3;exact g3.elim
      .exact g.elim
     .exact g.elim
    | _=>exact g.elim
  .cases h
 unfold RF.srcOf at hs;split at hs
 .rename_i r pr a pc;split at hs
  .rename_i hr;obtain⟨rfl,hg,hp⟩:=hr;cases hs;have ha:=KO.e rfl CN.tobV a;have args:PA X.cV [a] (oz (tE X.K W E0 (kt.e Γ a)) lO):=dW ha gA (aA hp);have DF:PI X.cV tg (.Call (.Name "range" pr) [a] [] pc) (AY (oz (tE X.K W E0 (kt.e Γ a)) lO)):=uq (CN.tobV.gl hg).1 (C.top.blt _ (by simp[cI])) args (by rw[aA hp];rfl);refine mW (X:=X.cV) PassesOwn.never C.calm DF hG hb (λv=>rfl) pins st σ H D I ?_;have g:a4 X.K W E0 M H (RF.dI (kt.e Γ a ρ S) λx S1=>match x with | .int j=>if RF.e7 j=true then RF.forL is one bd (RF.dZ 0 j.toNat) ρ S1 else .bad | _=>.bad) D:=g;refine iw sm g λM1 H1 d u S1 s1 u1 r1 g1=>?_;cases d with
   | int j=>
    dsimp only at g1;split at g1
    .rename_i hz;unfold RF.e7 at hz;simp only[Bool.and_eq_true,decide_eq_true_eq] at hz;cases r1;exact⟨j,rfl,hz.1,hz.2,oI (X:=X) wA zt s1 trivial g1⟩
    .exact g1.elim
   | _=>exact g1.elim
  .exact dyn hs g
 .rename_i r pr a b c pc;split at hs
  .rename_i hr;obtain⟨rfl,hg,hp,m1,m2⟩:=hr;cases hs;obtain⟨j1,p1,q1,rfl⟩:=uj m1;obtain⟨j2,p2,q2,rfl⟩:=uj m2;have ha:=KO.e rfl CN.tobV a;have args:=dW (X:=X.cV) (es:=[.UnaryOp .USub (.Constant (.int 1) j1 p1) q1,.UnaryOp .USub (.Constant (.int 1) j2 p2) q2]) ha (dW (Ar vt vL) (dW (Ar vt vL) gA)) (aA hp);have DF:=De (tg:=tg) (pos:=pc) (p:=pr) (CN.tobV.gl hg).1 (C.top.blt _ (by simp[cI])) args (by rw[aA hp];rfl);refine mW (X:=X.cV) PassesOwn.never C.calm DF hG hb (λv=>rfl) pins st σ H D I ?_;have g:a4 X.K W E0 M H (RF.dI (kt.e Γ a ρ S) λx S1=>match x with | .int j=>if 0<=j/\j<=1000 then RF.forL is one bd (RF.gG j.toNat) ρ S1 else .bad | _=>.bad) D:=g;refine iw sm g λM1 H1 d u S1 s1 u1 r1 g1=>?_;cases d with
   | int j=>
    dsimp only at g1;split at g1
    .rename_i hz;cases r1;have ej:((j.toNat:Nat):Int)=j:=Int.toNat_of_nonneg hz.1;refine⟨1,rfl,1,rfl,j.toNat,by rw[ej],by omega,oI (X:=X) IT zt s1 trivial g1⟩
    .exact g1.elim
   | _=>exact g1.elim
  .cases hs
 .exact dyn hs g
mutual
theorem au.trim {M:List Addr}{H:Hp}{n:Nat}{d:D}{v:V}(r:au M H d v)(h:RF.kg n d=true):au (M.take n) H d v:=by
 cases r with
 | aj=>exact .aj
 | bl b=>exact .bl b
 | int i=>exact .int i
 | str x=>exact .str x
 | tup e rs=>exact .tup e (ay.trim rs h)
 | ref e=>have h:=of_decide_eq_true h;exact .ref (by rw[List.getElem?_take_of_lt h];exact e)
theorem ay.trim {M:List Addr}{H:Hp}{n:Nat}{ds:List D}{vs:List V}(r:ay M H ds vs)(h:RF.kg.tm n ds=true):ay (M.take n) H ds vs:=by
 cases r with
 | nil=>exact .nil
 | cons r rs=>unfold RF.kg.tm at h;rw[Bool.and_eq_true] at h;exact .cons (au.trim r h.1) (ay.trim rs h.2)
end
theorem pT {n:Nat}:∀{xs:List D},xs.all (RF.kg n)=true->RF.kg.tm n xs=true
 | [],_=>rfl
 | x::xs,h=>by rw[List.all_cons,Bool.and_eq_true] at h;unfold RF.kg.tm;rw[h.1,pT h.2];rfl
theorem Paired.mapA {α β:Type}{F G:α->β->Prop}{g:α->Bool}{l:List α}{m:List β}(h:Paired F l m)(ha:l.all g=true)(k:∀p q,g p=true->F p q->G p q):Paired G l m:=by
 induction h with
 | nil=>exact .nil
 | cons r t ih=>rw[List.all_cons,Bool.and_eq_true] at ha;exact .cons (k _ _ ha.1 r) (ih ha.2)
theorem eQ.trim {K:Fg}{M:List Addr}{H:Hp}{n:Nat}{a:Addr}{o:O}(r:eQ K W M H a o)(h:RF.i4 n o=true):eQ K W (M.take n) H a o:=by
 cases o with
 | lst xs=>obtain⟨vs,h1,h2⟩:=r;exact⟨vs,h1,h2.trim (pT h)⟩
 | cw xs=>obtain⟨vs,h1,h2⟩:=r;exact⟨vs,h1,h2.trim (pT h)⟩
 | aG af=>
  rcases r with⟨ks,h1,h2⟩|⟨ts,h1,h2⟩
  .exact .inl ⟨ks,h1,Paired.mapA h2 h λp q z y=>⟨y.1,y.2.trim (Bool.and_eq_true .. ▸ z).2⟩⟩
  .exact .inr ⟨ts,h1,Paired.mapA h2 h λp q z y=>⟨y.1,y.2.trim (Bool.and_eq_true .. ▸ z).2⟩⟩
 | dC af=>obtain⟨o,ts,h1,h2⟩:=r;exact⟨o,ts,h1,Paired.mapA h2 h λp q z y=>⟨y.1,y.2.trim (Bool.and_eq_true .. ▸ z).2⟩⟩
 | jr af=>obtain⟨xs,ps,h1,h2,h3⟩:=r;exact⟨xs,ps,h1,h2,Paired.mapA h3 h λp q z y=>⟨y.1,y.2.trim (Bool.and_eq_true .. ▸ z).2⟩⟩
 | obj c fs=>obtain⟨dx,gs,h1,h2,h3⟩:=r;exact⟨dx,gs,h1,h2,Paired.mapA h3 h λp q z y=>⟨y.1,y.2.trim z⟩⟩
section
variable {K:Fg}{M:List Addr}{S:ae}{H:Hp}{ρ:RF.Env}{σ:St}{n:Nat}
theorem Cn.trim (c:Cn K W M S H)(ho:(S.take n).all (RF.i4 n)=true):Cn K W (M.take n) (S.take n) H:=by
 have lt:∀{α:Type} {l:List α} {i:Nat} {a:α},(l.take n)[i]?=some a->i<n/\l[i]?=some a:=λ{α l i a} h=>by
  rcases Nat.lt_or_ge i n with hi | hi
  .exact⟨hi,by rw[List.getElem?_take_of_lt hi] at h;exact h⟩
  .rw[List.getElem?_take_eq_none hi] at h;cases h
 refine⟨by simp[c.len],c.sk,λi j a h1 h2 r1 r2=>?_,λi o a h1 h2=>?_,c.gu⟩
 .obtain⟨l1,h1⟩:=lt h1;obtain⟨l2,h2⟩:=lt h2;rw[List.getElem?_take_of_lt l1] at r1;rw[List.getElem?_take_of_lt l2] at r2;exact c.sep i j a h1 h2 r1 r2
 .exact(c.at_ i o a (lt h1).2 (lt h2).2).trim (List.all_eq_true.mp ho o (List.mem_of_getElem? h1))
theorem tK {M':List Addr}(h:kJ M H ρ σ)(hM:M'=M.take n):kJ M' H (RF.gj n ρ) σ:=λi d e=>by
 unfold RF.gj at e;rw[List.getElem?_map] at e;obtain⟨o,e1,e2⟩:=Option.map_eq_some_iff.mp e;obtain⟨d',e3,e4⟩:=Option.bind_eq_some_iff.mp e2;subst e3;split at e4
 .rename_i hd;cases e4;obtain⟨v,g1,g2⟩:=h i d e1;rw[hM];exact⟨v,g1,g2.trim hd⟩
 .cases e4
theorem Sm.trim (s:Sm K W M S H ρ σ)(ho:(S.take n).all (RF.i4 n)=true):Sm K W (M.take n) (S.take n) H (RF.gj n ρ) σ:=
 ⟨s.con.trim ho,tK s.env rfl,by unfold RF.gj;rw[List.length_map];exact s.len⟩
theorem Cn.pad (c:Cn K W M S H){a0:Addr}{xs:List D}(h0:M[0]?=some a0)(hS:S[0]?=some (.cw xs))(j:Nat):Cn K W (M++List.replicate j a0) (S++List.replicate j (.cw xs)) H:=by
 have u:Up M H (M++List.replicate j a0) H:=⟨⟨List.prefix_append _ _,λ_ _ h=>h⟩,λ_ _ _ h=>h⟩;have cw:∀i,S.length<=i->i<S.length+j->(S++List.replicate j (O.cw xs))[i]?=some (.cw xs):=λi h1 h2=>by rw[List.getElem?_append_right h1,List.getElem?_replicate,if_pos (by omega)]
 have lt:∀i a,(M++List.replicate j a0)[i]?=some a->i<S.length+j:=λi a h=>by have:=(List.getElem?_eq_some_iff.mp h).1;rw[List.length_append,List.length_replicate,c.len] at this;exact this
 refine⟨by simp[c.len],c.sk,λi k a h1 h2 r1 r2=>?_,λi o a h1 h2=>?_,c.gu⟩
 .have small:∀i a,(M++List.replicate j a0)[i]?=some a->fF (S++List.replicate j (O.cw xs))[i]?=false->i<S.length:=λi a h r=>by
   rcases Nat.lt_or_ge i S.length with z | z
   .exact z
   .rw[cw i z (lt i a h)] at r;cases r
  have l1:=small i a h1 r1;have l2:=small k a h2 r2;rw[List.getElem?_append_left (by rw[c.len];exact l1)] at h1;rw[List.getElem?_append_left (by rw[c.len];exact l2)] at h2;rw[List.getElem?_append_left l1] at r1;rw[List.getElem?_append_left l2] at r2;exact c.sep i k a h1 h2 r1 r2
 .rcases Nat.lt_or_ge i S.length with z | z
  .rw[List.getElem?_append_left z] at h1;rw[List.getElem?_append_left (by rw[c.len];exact z)] at h2;exact(c.at_ i o a h1 h2).up u λv h=>h
  .rw[cw i z (lt i a h2)] at h1;cases h1;rw[List.getElem?_append_right (by rw[c.len];exact z),List.getElem?_replicate] at h2;split at h2
   .cases h2;exact(c.at_ 0 _ _ hS h0).up u λv h=>h
   .cases h2
theorem EY {M M':List Addr}(h:M <+: M')(hl:M.length=n):M'.take n=M:=by obtain⟨t,rfl⟩:=h;rw[<-hl,List.take_left'];rfl
theorem FC {a:D}{all:List D}{i:Nat}{b:RF.CS}{l:List D}{D:Ends}(g:a4 K W E M H (RF.iH n a all i b l ρ S) D):RF.e9 a all S=true:=by
 cases h:RF.e9 a all S with
 | true=>rfl
 | false=>
  exfalso;cases l with
  | nil=>unfold RF.iH at g;rw[h] at g;exact g
  | cons x xs=>unfold RF.iH at g;rw[h] at g;exact g
theorem ED {m:Nat}{p:Addr}{items:List D}{i:Nat}{b:RF.CS}{D:Ends}(sm:Sm K W M S H ρ σ)(hl:S.length=n)(hp:M[m]?=some p)(g:a4 K W E0 M H (RF.iH n (.ref m) items i b items ρ S) D):∃Wv:Nat->Nat->St->Hp->Prop,(∃m,Wv 0 m σ H)/\∀ix m σ H,Wv ix m σ H ->
 ((yi K p).stop ix H/\D.nx σ H)\/((yi K p).go ix H/\∃N:St->Hp->Prop,(∀σ' H',N σ' H'->∃m',m'<m/\Wv (ix+1) m' σ' H')/\∀x H',(yi K p).xB ix H x H'->ow i x σ H' λσ2 H2=>tF K W E0 b { D with nx:=N,ct:=N,bk:=D.nx } σ2 H2):=by
 refine⟨λix mm σ H=>mm=items.length-ix/\ix<=items.length/\∃S ρ,Sm K W M S H ρ σ/\S.length=n/\a4 K W E0 M H (RF.iH n (.ref m) items i b (items.drop ix) ρ S) D,⟨items.length,by simp,Nat.zero_le _,S,ρ,sm,hl,by rw[List.drop_zero];exact g⟩,?_⟩;rintro ix mm σ H ⟨rfl,hi,S,ρ,sm,hl,g⟩;have hc:=FC g;have hit:RF.itemsOf S (.ref m)=some items:=of_decide_eq_true hc;have wk:=sv (K:=K) (W:=W) (n:=m) (a:=p) (items:=items);rcases Nat.lt_or_ge ix items.length with de | zw
 .obtain⟨go,yl⟩:=wk.go ix M S H sm.con ⟨hp,hit⟩ de;refine .inr ⟨go,_,λσ' H' z=>⟨items.length-(ix+1),by omega,z⟩,λx H' y=>?_⟩;obtain⟨rfl,d,hd,rd⟩:=yl x H' y;have ed:items.drop ix=d::items.drop (ix+1):=by
   rw[List.drop_eq_getElem_cons de]
   congr 1
   rw[List.getElem?_eq_getElem de] at hd;exact Option.some.inj hd
  rw[ed] at g;unfold RF.iH at g;rw[if_pos hc] at g;show tF K W E0 b _ _ _;refine⟨M,ρ.set i (some d),S,sm.set rd,?_⟩;cases ev:b (ρ.set i (some d)) S with
  | nx ρ1 S1=>
   rw[ev] at g;dsimp only at g;split at g
   .rename_i hz;intro M' H2 σ2 s2 u2;have s3:=s2.trim (n:=n) hz.1;rw[EY u2.pre (sm.con.len.trans hl)] at s3;exact⟨rfl,de,S1.take n,RF.gj n ρ1,s3,by rw[List.length_take];omega,a4.up g ⟨⟨List.prefix_rfl,u2.dS⟩,u2.da⟩⟩
   .exact g.elim
  | rt d S2=>rw[ev] at g;exact g
  | ct ρ2 S2=>rw[ev] at g;exact g.elim
  | bk ρ2 S2=>rw[ev] at g;exact g.elim
  | bad=>rw[ev] at g;exact g.elim
 .have ei:ix=items.length:=by omega
  subst ei;refine .inl ⟨wk.stop _ M S H sm.con ⟨hp,hit⟩ (Nat.le_refl _),?_⟩;rw[List.drop_length] at g;unfold RF.iH at g;rw[if_pos hc] at g;exact a4.nx g sm
end
theorem IV (C:eF X W Γ E cl k)(KO:dD kt W.T cl k){x:Str}{px:Pos}{it:Expr}{body:List Stmt}{i n:Nat}{bd:RF.CS}(hi:RF.slot Γ x=some i)(hr:RF.md it=true)(hb:iy X.cV body (tF X.K W E0 bd)):
 PS X (.For (.Name x px) it body [] pos) (tF X.K W E (RF.jB n (kt.e Γ it) i bd)):=by
 refine PS.cV ?_;have CN:=C.cV;intro pins st σ H D I ⟨M,ρ,S,sm,g⟩;have g:a4 X.K W E0 M H (RF.dI (kt.e Γ it ρ S) λx S1=>match x with
  | .ref m=>match S1[m]?,RF.vX n S1 with
   | some (.lst xs),some S2=>if S2.all (RF.i4 n)=true then RF.iH n x xs i bd xs (RF.gj n ρ) S2 else .bad
   | _,_=>.bad
  | _=>.bad) D:=a4.p4 g
 have fold:∀v,foldedSetIterable it X.cV.env v=pure v:=λv=>by cases it<;>first | rfl | (simp[RF.md] at hr)
 obtain⟨h1,h2⟩:=eV CN hi;refine mW (X:=X.cV) PassesOwn.never C.calm (qd (KO.e rfl CN.tobV it)) (oB CN.nd h1 h2 (.inl (C.fn _))) hb fold pins st σ H D I ?_;refine iw sm g λM1 H1 d u S1 s1 u1 r1 g1=>?_;cases d with
 | ref m=>
  obtain⟨p,rfl,ea⟩:=bw r1;dsimp only at g1;split at g1
  .rename_i xs S2 hS tB;obtain⟨vs,q1,q2⟩:=s1.con.lst hS ea;refine⟨p,rfl,⟨vs,cB.of q1⟩,λhz=>?_⟩;split at g1
   .rename_i aw;unfold RF.vX at tB;split at tB
    .rename_i ys h0;split at tB
     .rename_i hle;cases tB;have l0:0<M1.length:=by rw[s1.con.len];exact(List.getElem?_eq_some_iff.mp h0).1
      have c2:=s1.con.pad (List.getElem?_eq_getElem l0) h0 (n-S1.length);have hlen:(S1++List.replicate (n-S1.length) (O.cw ys)).length=n:=by simp;omega
      have up2:Up M1 H1 (M1++List.replicate (n-S1.length) M1[0]) H1:=⟨⟨List.prefix_append _ _,λ_ _ h=>h⟩,λ_ _ _ h=>h⟩;have s2:=s1.to c2 up2;have s3:Sm X.K W (M1++List.replicate (n-S1.length) M1[0]) (S1++List.replicate (n-S1.length) (O.cw ys)) H1 (RF.gj n ρ) σ:=
       ⟨c2,tK s2.env (by rw[List.take_of_length_le];rw[c2.len,hlen];exact Nat.le_refl _),by unfold RF.gj;rw[List.length_map];exact s2.len⟩
      exact ED s3 hlen (dY up2.pre ea) (a4.up g1 up2)
     .cases tB
    .cases tB
   .exact g1.elim
  .exact g1.elim
 | _=>exact g1.elim
def Et (kt:RF.d0)(T:Tab)(cl:RF.Calls)(k:Nat):Prop:=∀(X:Cx) (W:bj) (Γ:RF.Gm) (E:XK),W.T=T->eF X W Γ E cl k->∀s,PS X s (tF X.K W E (kt.s Γ s))
def Ea (kt:RF.d0)(T:Tab)(cl:RF.Calls)(k:Nat):Prop:=∀(X:Cx) (W:bj) (Γ:RF.Gm) (E:XK),W.T=T->eF X W Γ E cl k->∀(x:Str) (px:Pos) (e:Expr) (pos:Pos) (i:Nat),RF.slot Γ x=some i->PS X (.Assign [.Name x px] e pos) (tF X.K W E (RF.a5 i (kt.e Γ e)))
theorem ke {st:Stmt}{i:Nat}:PS X st (tF X.K W E (RF.a5 i RF.aW)):=λ_ _ _ _ _ _ ⟨_,_,_,_,g⟩=>g.elim
theorem DP (KO:dD kt W.T cl k)(C:eF X W Γ E cl k)(x:Str)(px:Pos)(e:Expr)(pos:Pos)(i:Nat)(hi:RF.slot Γ x=some i):PS X (.Assign [.Name x px] e pos) (tF X.K W E (RF.a5 i (RF.qW W.T cl kt Γ e))):=by
 cases hc:RF.fM e with
 | false=>exact Dk C hi (xf KO C.tobV e) (vp hc)
 | true=>
  cases e with
  | ListComp elt gens sc p=>
   show PS X _ (tF X.K W E (RF.a5 i (match RF.iT W.T kt Γ (.ListComp elt gens sc p) with | some c=>λρ S=>(c ρ S).bind λys S1=>RF.fz (.lst ys) S1 | none=>RF.aW)));split
   .rename_i c hcg;exact JL C KO hi hcg
   .exact ke
  | SetComp _ _ _ _=>exact ke
  | DictComp _ _ _ _ _=>exact ke
  | _=>simp[RF.fM] at hc
theorem HX (he:∀e,PE X e (tE X.K W E (kt.e Γ e)))(C:eF X W Γ E cl k)(ts:List Expr)(kk:Nat)(pt:Pos)(e:Expr)(p:Pos):PS X (.Assign [.Tuple ts kk pt] e p) (tF X.K W E (RF.DX kt Γ ts e)):=by
 unfold RF.DX;split
 .exact cA
 .rename_i is hi;have gen:∀e,(∀es k2 p2,e ≠ .Tuple es k2 p2)->PS X (.Assign [.Tuple ts kk pt] e p) (tF X.K W E (if RF.fM e=true then RF.bN else RF.tupS is (kt.e Γ e))):=λe cN=>by
   split
   .exact cA
   .exact Mb C hi (he _) (LI cN)
  cases e with
  | Tuple es k2 p2=>
   dsimp only;split
   .rename_i h;exact JR C hi (iB he) h.1 h.2.1 h.2.2.1 h.2.2.2
   .exact cA
  | _=>exact gen _ λ_ _ _ z=>by cases z
theorem Ic (KO:dD kt W.T cl k)(KA:Ea kt W.T cl k)(C:eF X W Γ E cl k)(tg e:Expr)(p:Pos):PS X (.Assign [tg] e p) (tF X.K W E (RF.MH W.T kt Γ tg e)):=by
 have he:=λe=>KO.e rfl C.tobV e;cases tg with
 | Name x px=>
  show PS X _ (tF X.K W E (match RF.slot Γ x with | some i=>RF.a5 i (kt.e Γ e) | none=>RF.bN));split
  .rename_i i hi;exact KA _ _ _ _ rfl C x px e p i hi
  .exact cA
 | Tuple ts kk pt=>exact HX he C ts kk pt e p
 | Attribute a f pa=>
  show PS X _ (tF X.K W E (match RF.b9 W.T.cQ f with | some i=>RF.eT W.T.plain (kt.e Γ a) i (kt.e Γ e) | none=>RF.bN));split
  .rename_i i hi;exact KH C hi (he _) (he _)
  .exact cA
 | Subscript a i pa=>
  show PS X _ (tF X.K W E (if RF.fM e=true\/RF.eX i=false then RF.bN else RF.fJ (kt.e Γ a) (kt.e Γ i) (kt.e Γ e)));split
  .exact cA
  .rename_i h;simp only[not_or,Bool.not_eq_true,Bool.not_eq_false] at h;exact Kq C (he _) (he _) (he _) h.2
 | _=>exact cA
theorem IG (KO:dD kt W.T cl k)(KS:Et kt W.T cl k)(C:eF X W Γ E cl k)(tg it:Expr)(body:List Stmt)(p:Pos):PS X (.For tg it body [] p) (tF X.K W E (RF.D7 W.T kt Γ tg it body)):=by
 have hsN:∀ss:List Stmt,iy X.cV ss (tF X.K W E0 (RF.ah (ss.map (kt.s Γ)))):=λss=>GI (X:=X.cV) λs _=>KS _ _ _ _ rfl C.cV s;cases tg with
 | Name x px=>
  show PS X _ (tF X.K W E (match RF.slot Γ x,RF.srcOf W.T kt Γ it with
   | some i,some s=>if RF.md it=true then RF.jB RF.je (kt.e Γ it) i (RF.ah (body.map (kt.s Γ))) else RF.fh s [i] true (RF.ah (body.map (kt.s Γ)))
   | _,_=>RF.bN))
  split
  .rename_i i src hi F7;split
   .rename_i hr;exact IV C KO hi hr (hsN _)
   .obtain⟨h1,h2⟩:=eV C.cV hi;exact Cz C KO F7 (oB C.cV.nd h1 h2 (.inl (C.fn _))) yW (hsN _)
  .exact cA
 | Tuple ts kk pt=>
  show PS X _ (tF X.K W E (match RF.slots Γ ts,RF.srcOf W.T kt Γ it with | some is,some s=>RF.fh s is false (RF.ah (body.map (kt.s Γ))) | _,_=>RF.bN));split
  .rename_i is src hi F7;obtain⟨a1,a2,a3⟩:=fY (env:=X.cV.env) hi;exact Cz C KO F7 (rL C.calm (ki C.cV hi) rfl a2) (BZ (a3.trans a1.symm)) (hsN _)
  .exact cA
 | _=>exact cA
theorem Em (KO:dD kt W.T cl k)(KA:Ea kt W.T cl k)(KS:Et kt W.T cl k)(C:eF X W Γ E cl k)(s:Stmt):PS X s (tF X.K W E (RF.GS W.T cl kt Γ s)):=by
 have he:=λe=>KO.e rfl C.tobV e;have hs:∀ss:List Stmt,iy X ss (tF X.K W E (RF.ah (ss.map (kt.s Γ)))):=λss=>GI λs _=>KS _ _ _ _ rfl C s;cases s with
 | Pass p=>exact Iv
 | Break p=>exact FR
 | Continue p=>exact JA
 | Expr e p=>
  show PS X _ (tF X.K W E (if RF.fM e=true then RF.bN else RF.aU (kt.e Γ e)));split
  .exact cA
  .rename_i hc;exact Ju (he _) (by simpa using hc)
 | Return o p=>cases o with
  | some e=>exact Lb (he _)
  | none=>exact IJ
 | If c a b p=>exact NJ (KO.t rfl C.tobV _) (hs _) (hs _)
 | Assign ts e p=>
  match ts with
  | [tg]=>exact Ic KO KA C tg e p
  | []=>exact cA
  | _::_::_=>exact cA
 | Delete ts p=>
  match ts with
  | []=>exact cA
  | t::_::_=>cases t<;>exact cA
  | [t]=>
   cases t with
   | Subscript a i q=>
    show PS X _ (tF X.K W E (if RF.eX i=true then RF.ma (kt.e Γ a) (kt.e Γ i) else RF.bN));split
    .exact K7 C (he _) (he _)
    .exact cA
   | _=>exact cA
 | AugAssign tg op e p=>
  cases tg with
  | Name x px=>
   cases op with
   | Add=>
    show PS X _ (tF X.K W E (match RF.slot Γ x with | some i=>RF.qb i (kt.e Γ e) | none=>RF.bN));split
    .rename_i hi;exact LU C hi (he _)
    .exact cA
   | _=>exact cA
  | _=>exact cA
 | For tg it body els q=>
  show PS X _ (tF X.K W E (if els.isEmpty=true then RF.D7 W.T kt Γ tg it body else RF.bN));split
  .rename_i h;cases els with
   | nil=>exact IG KO KS C tg it body _
   | cons _ _=>cases h
  .exact cA
 | _=>exact cA
theorem Ij (T:Tab)(cl:RF.Calls)(k:Nat):∀n,Ea (RF.qI T cl n) T cl k
 | 0=>λ_ _ _ _ _ _ _ _ _ _ _ _=>ke
 | n+1=>by intro X W Γ E hT C x px e pos i hi;subst hT;exact DP (sC _ cl k n) C x px e pos i hi
theorem zg (T:Tab)(cl:RF.Calls)(k:Nat):∀n,Et (RF.qI T cl n) T cl k
 | 0=>λ_ _ _ _ _ _ _=>cA
 | n+1=>by intro X W Γ E hT C s;subst hT;exact Em (sC _ cl k n) (Ij _ cl k n) (zg _ cl k n) C s
end
end L2
namespace L2
open PySem PySem.Spec PyProof.Rows
open RF (D O ae Tab)
section
variable {P:Program}{w:World}{K:Fg}{mg:Str->Option Value}{base:Heap}{W:bj}{cl:RF.Calls}{k:Nat}
theorem Ag {st:Stmt}{g:RF.Fn}(h:RF.fnOf st=some g):bo st=g.sc/\cO st=g.body:=by
 unfold RF.fnOf RF.Oy at h;cases st with
 | FunctionDef nm a b dl r tp sc ts bd p=>
  dsimp only at h;split at h
  .cases h;exact⟨rfl,rfl⟩
  .cases h
 | _=>cases h
theorem Bl {M:List Addr}{H:Hp}{N:List Str}{ds:List D}{vs:List V}(r:ay M H ds vs):kJ M H (RF.jd N ds) (start N vs)/\(RF.jd N ds).length=(start N vs).length:=by
 have hl:=r.length;refine⟨λi d e=>?_,?_⟩
 .unfold RF.jd at e;unfold start;have hi:i<ds.length:=by
   rcases Nat.lt_or_ge i ds.length with z | z
   .exact z
   .rw[List.getElem?_append_right (by simpa using z),List.getElem?_replicate] at e;split at e<;>cases e
  rw[List.getElem?_append_left (by simpa using hi),List.getElem?_map] at e;obtain⟨d',e1,e2⟩:=Option.map_eq_some_iff.mp e;cases e2;obtain⟨v,g1,g2⟩:=r.get e1;exact⟨v,by rw[List.getElem?_append_left (by rw[List.length_map,<-hl];exact hi),List.getElem?_map,g1];rfl,g2⟩
 .unfold RF.jd start;simp[hl]
theorem gm.Ph {x qual:Str}{st:Stmt}{f:Addr}{fd:FuncData}{N ps:List Str}{k:Nat}{sp:Sp}(F:gm K x qual st f fd)(S:fZ N ps (bo st))(len:∀vs H Q E,sp vs H Q E->vs.length=ps.length)
 (Bf:∀(A:Around) (outer:List Env) (s:Sh) (H:Hp) (vs:List V) (Q:VK) (E:XK),cT k (A.deeper (envOfC qual (bo st) s.heap.objs.size f fd.code))->sp vs H Q E ->
   ∃t,iy (qi (kQ P w) P w K mg base N qual (bo st) f fd.code A outer s H E) (cO st) t/\t { nx:=λ_ H'=>Q .aj H',rt:=Q } (start N vs) H):dM P w K mg base (kQ P w) (k+1) f fd ps sp:=by
 obtain⟨oc,od,kV,doc,pm,an,gS,ct,uE,rfl,lk,sg⟩:=F.ex;exact N3 lk sg S len λA outer s H vs Q E hr uF=>Bf A outer s H vs Q E hr uF
theorem vP {x qual:Str}{st:Stmt}{f:Addr}{fd:FuncData}{g:RF.Fn}(F:gm K x qual st f fd)(hf:RF.fnOf st=some g)(S:fZ g.N g.ps g.sc)(top:TopK P w K mg base W cl k):dM P w K mg base (kQ P w) (k+4) f fd g.ps (nR K W (RF.gF W.T cl g) g.ps.length):=by
 obtain⟨p1,p2⟩:=Ag hf;refine F.Ph (k:=k+3) (N:=g.N) (by rw[p1];exact S) (λvs H Q E h=>h.1) (λA outer s H vs Q E hr h=>?_);obtain⟨hn,M,St,ds,cn,r,gl⟩:=h;have C:eF (qi (kQ P w) P w K mg base g.N qual (bo st) f fd.code A outer s H E) W ⟨g.N,g.sc,g.lam⟩ E0 cl k:=
  ⟨⟨rfl,S.nd,by show nF g.sc (bo st);rw[p1];exact nF.refl _,rfl,hr.mono (by omega),zI,top⟩,hr.mono (by omega),λ_=>rfl,p1,by show (bo st).kind=_;rw[p1];exact S.kind⟩
 refine⟨_,by rw[p2];exact GI λs _=>zg W.T cl k RF.Gn _ W ⟨g.N,g.sc,g.lam⟩ E0 rfl C s,?_⟩;unfold RF.gF at gl;rw[if_pos (r.length.trans hn)] at gl;obtain⟨e1,e2⟩:=Bl (N:=g.N) r;refine⟨M,RF.jd g.N ds,St,⟨cn,e1,e2⟩,?_⟩;show a4 K W E0 M H (RF.ah (g.body.map ((RF.qI W.T cl RF.Gn).s ⟨g.N,g.sc,g.lam⟩)) (RF.jd g.N ds) St) _;cases ev:RF.ah (g.body.map ((RF.qI W.T cl RF.Gn).s ⟨g.N,g.sc,g.lam⟩)) (RF.jd g.N ds) St with
 | nx ρ S'=>rw[ev] at gl;exact λM' H' σ' s' u'=>gl M' H' .aj s'.con u' .aj
 | rt d S'=>rw[ev] at gl;exact gl
 | bk ρ S'=>rw[ev] at gl;exact gl.elim
 | ct ρ S'=>rw[ev] at gl;exact gl.elim
 | bad=>rw[ev] at gl;exact gl.elim
structure A6 (P:Program)(w:World)(K:Fg)(mg:Str->Option Value)(base:Heap)(W:bj)(pr:RF.Prog):Prop where
 T:W.T=pr.T
 cons:∀x d,W.T.cons.lookup x=some d->∃u v,mg x=some u/\RelV v u/\∀M H,au M H d v
 fn:∀x i,RF.b9 W.T.eB x=some i->∃st g f fd,pr.fs[i]?=some st/\RF.fnOf st=some g/\gm K x x st f fd/\fZ g.N g.ps g.sc/\mg x=some (.ref f)/\Binds K fd g.ps []
 tq:∀x c,RF.b9 W.T.fU x=some c->mg x=some (.ref (W.c c))
 xK:∀c,c<W.T.fU.length->gB K (W.c c)
 plain:∀c f x,c<W.T.fU.length->W.T.plain c f=true->W.T.cQ[f]?=some x->gY K (W.c c) x
 mt:∀c m x,W.T.aS c m=true->W.T.cQ[m]?=some x->∃st g f fd q,(pr.ms.find? λy=>y.1==c&&y.2.1==m)=some (c,m,st)/\RF.fnOf st=some g/\gm K x q st f fd/\fZ g.N g.ps g.sc/\Meth K (W.c c) x f/\jM K W.T c x fd g.ps/\(x = "__init__"->Mk K (W.c c) f)/\gB K (W.c c)
 blt:∀x∈cI,mg x=none
 ph:W.ph=dE P w
theorem Dp {f:Addr}{fd:FuncData}{ps:List Str}{h:List D->ae->RF.R D}{n:Nat}(hb:∀ds S,h ds S = .bad):dM P w K mg base (kQ P w) n f fd ps (nR K W h ps.length):=
 ⟨λvs H Q E z=>z.1,λA outer s H args us vs Q E hr e0 hbd hv ⟨_,M,S,ds,_,_,g⟩=>by rw[hb] at g;exact g.elim⟩
theorem Cg {pr:RF.Prog}(G:A6 P w K mg base W pr):∀n,TopK P w K mg base W (RF.calls pr n) (4*n)
 | 0=>⟨G.cons,λx i h=>by
  obtain⟨st,g,f,fd,h1,h2,h3,h4,h5,h6⟩:=G.fn x i h;exact⟨f,fd,g.ps,Dp λ_ _=>rfl,λ_ _ _=>rfl,h5,h3.kp,h6⟩,G.tq,G.xK,G.plain,λc m x h hx=>by
  obtain⟨st,g,f,fd,q,h1,h2,h3,h4,h5,h6,h7,h8⟩:=G.mt c m x h hx;exact⟨f,fd,g.ps,Dp λ_ _=>rfl,λ_ _ _=>rfl,h5,h6,h7,h8⟩,G.blt,G.ph⟩
 | n+1=>by
  have ih:=Cg G n;refine⟨G.cons,λx i h=>?_,G.tq,G.xK,G.plain,λc m x h hx=>?_,G.blt,G.ph⟩
  .obtain⟨st,g,f,fd,h1,h2,h3,h4,h5,h6⟩:=G.fn x i h;have e:(RF.calls pr (n+1)).f i=RF.gF W.T (RF.calls pr n) g:=by
    funext vs S
    show (match pr.fn i with | some g=>RF.gF pr.T (RF.calls pr n) g vs S | none=>.bad)=_;unfold RF.Prog.fn;rw[h1,Option.bind_some,h2,G.T]
   rw[e];refine⟨f,fd,g.ps,vP h3 h2 h4 ih,λds S hl=>?_,h5,h3.kp,h6⟩;unfold RF.gF;rw[if_neg hl]
  .obtain⟨st,g,f,fd,q,h1,h2,h3,h4,h5,h6,h7,h8⟩:=G.mt c m x h hx;have e:(RF.calls pr (n+1)).m c m=RF.gF W.T (RF.calls pr n) g:=by
    funext vs S
    show (match pr.mt c m with | some g=>RF.gF pr.T (RF.calls pr n) g vs S | none=>.bad)=_;unfold RF.Prog.mt;rw[h1,Option.bind_some,h2,G.T]
   rw[e];refine⟨f,fd,g.ps,vP h3 h2 h4 ih,λds S hl=>?_,h5,h6,h7,h8⟩;unfold RF.gF;rw[if_neg hl]
end
end L2
namespace L2
open PySem PySem.Spec PyProof.Rows
open RF (D O ae Tab)
theorem BU {P:Program}{w:World}{K:Fg}{mg mb:Str->Option Value}{CX:ku}{k:Nat}{fa a:Addr}{fd:FuncData}{x:Str}{sp:Sp}{s₁:Sh}{vs:List Value}{ns:List Int}(Ps:List Addr)
 (KX:K.In s₁.heap) (hns:s₁.heap.Ns mainGlobals mg) (hb:s₁.heap.Ns builtinsNs mb) (hbb:∀x:Str,x ≠ "__name__"->mb x=bootBuiltins x) (hlim:s₁.heap.NoLimit) (hg:s₁.gens = #[]) (hBm:p9 mg s₁.heap) (M0:∀P∈Ps,∃c,W.CodeHd s₁.heap c P/\s₁.heap.get? P=some (W.tabObj #[])) (hKP:∀P∈Ps,K.lookup P=none)
 (ha:s₁.heap.get? a=some { cls:=.type "list",data:=.seq vs.toArray }) (hi:IntsAre vs ns) (hl:ns.length<=sizeLine) (hr:cT k callerA)
 (F:∀base:Heap,K.In base->base.Ns mainGlobals mg->p9 mg base->dM P w K mg base CX k fa fd [x] sp) (Oe:∀(s:Sh) (u:Value),BindsTo s fd ⟨[u],[]⟩ [(x,u)])
 (uF:∀H:Hp,(∀P∈Ps,H P=some (.gu #[]))->lT K H a (ns.map V.int)->sp [.ref a] H (λv _=>v = .bl true) λ_ _ _=>False)
 (hCX:∀H e s',CX [] H s₁ (λ_ _ _=>False) e s'->False):
 codeAny (model P w) callerA (.call (.ref fa) ⟨[.ref a],[]⟩) (λr s'=>r = .ok (.ret (.bool true))/\OldK s₁.heap s'.heap/\s'.os=s₁.os/\AllBare s'.gens) s₁:=by
 have zz:∀P∈Ps,s₁.heap.get? P=some (W.tabObj #[]):=λP hP=>let ⟨_,_,e⟩:=M0 P hP;e
 have rv:=uu hi;have lenV:=hi.length;have core:∀H:Hp,Ny Ps H->(∀P∈Ps,H P=some (.gu #[]))->lT K H a (ns.map V.int)->aL P w H s₁.heap->(∀b,H b≠none->b=a\/b∈Ps)->(H a≠none->K.lookup a=none) ->
  codeAny (model P w) callerA (.call (.ref fa) ⟨[.ref a],[]⟩) (λr s'=>r = .ok (.ret (.bool true))/\OldK s₁.heap s'.heap/\s'.os=s₁.os/\AllBare s'.gens) s₁:=by
  intro H hO hP hS aw hA hK;have base_of:∀{b:Addr} {o:Obj},s₁.heap.get? b=some o->H b=none->(kH s₁.heap H).get? b=some o:=λe n=>FQ e n;have eO:∀{b:Addr} {o:Obj},s₁.heap.get? b=some o->(∀us n,o.data ≠ .seq us n)->(∀us,o.data ≠ .fields us)->H b=none:=λ{b o} e d1 d2=>by
   cases q:H b with
   | none=>rfl
   | some u=>
    rcases hA b (by rw[q];simp) with z | z
    .rw[z,ha] at e;cases e;exact absurd rfl (d1 _ _)
    .rw[zz b z] at e;cases e;exact absurd rfl (d2 _)
  have nsK:∀{b:Addr} {m:Str->Option Value},s₁.heap.Ns b m->(kH s₁.heap H).Ns b m:=λ{b m} ⟨o,es,ep,e,d,r⟩=>⟨o,es,ep,base_of e (eO e (λ_ _ z=>by rw[d] at z;cases z) λ_ z=>by rw[d] at z;cases z),d,r⟩;have hKb:K.In (kH s₁.heap H):=λb o e=>base_of (KX b o e) (by
   cases q:H b with
   | none=>rfl
   | some u=>
    rcases hA b (by rw[q];simp) with z | z
    .subst z;rw[hK (by rw[q];simp)] at e;cases e
    .rw[hKP b z] at e;cases e)
  have hBb:p9 mg (kH s₁.heap H):=by obtain⟨bm,ob,b1,b2,b3,b4,b5,b6,b7⟩:=hBm;exact⟨bm,ob,b1,b2,b3,base_of b4 (eO b4 (λ_ _ z=>by rw[b7] at z;cases z) λ_ z=>by rw[b7] at z;cases z),b5,b6,b7⟩
  have hM:Mod K mg (kH s₁.heap H):=⟨hKb,nsK hns,⟨mb,nsK hb,hbb⟩,let ⟨mc,h1,h2⟩:=hlim;⟨mc,nsK h1,h2⟩⟩;have e0:pX P w K mg (kH s₁.heap H) callerA [] s₁ H:=⟨rfl,hM,λb o e=>Jc e,Nat.le_of_eq (Dn _ _),trivial,λb hb=>absurd (show b∈([]:List Addr) from hb) (by simp),aw,.of_eq hg⟩;refine codeAny_mono ((F _ hKb (nsK hns) hBb).run callerA [] s₁ H ⟨[.ref a],[]⟩ [.ref a] [.ref a] _ _ hr e0 (Oe s₁ (.ref a)) (.cons rfl .nil) (uF H hP hS)) λr s' h=>?_;cases r with
  | error e=>exact(hCX H e s' h).elim
  | ok fl=>
   cases fl with
   | next=>exact False.elim h
   | brk=>exact False.elim h
   | cont=>exact False.elim h
   | ret u=>
    obtain⟨v,H',os,bare,un,M5,r',q⟩:=h;have q':v = .bl true:=q;subst q';obtain rfl:u=Value.bool true:=r';refine⟨rfl,⟨λb o e=>?_,λb o e=>un.there b o e (by simp)⟩,os,bare⟩;cases q:H b with
    | none=>exact .inl (un.keep b o e q (λz=>absurd (show b∈([]:List Addr) from z) (by simp)) (by simp))
    | some u=>
     rcases hO b with z | ⟨ob,xs,z⟩|⟨hb,z⟩
     .rw[q] at z;cases z
     .have z2:=un.da b ob _ z;obtain⟨e1,_⟩:=aw b _ z;obtain⟨e2,_⟩:=M5 b _ z2;rw[e] at e1;cases e1;exact .inl e2
     .obtain⟨more,z2⟩:=un.jl b _ z;have e2:s'.heap.get? b=some { cls:=.none,data:=.fields (#[]++more) }:=M5 b _ z2;obtain⟨c,cd,eP⟩:=M0 b hb;rw[eP] at e;cases e;exact .inr (.inl ⟨(cd.tab eP).isCodeTable,rfl,#[],more,rfl,e2⟩)
 have aP:a∉Ps:=λz=>by have:=zz a z;rw[ha] at this;cases this
 cases hk:K.lookup a with
 | some o=>
  have e:=KX a o hk;rw[ha] at e;cases e;refine core (λb=>if b∈Ps then some (.gu #[]) else none) (λb=>?_) (λb hb=>if_pos hb) (.inr ⟨_,vs.toArray,_,hk,rfl,rfl,rfl,by rw[List.size_toArray,lenV];exact hl,by simpa using rv⟩) (λb u z=>?_) (λb z=>?_) λz=>absurd (if_neg aP) z
  .by_cases hb:b∈Ps
   .exact .inr (.inr ⟨hb,if_pos hb⟩)
   .exact .inl (if_neg hb)
  .by_cases hb:b∈Ps
   .have z':=(if_pos hb).symm.trans z;cases z';exact zz b hb
   .have z':=(if_neg hb).symm.trans z;cases z'
  .by_cases hb:b∈Ps
   .exact .inr hb
   .exact absurd (if_neg hb) z
 | none=>
  refine core (λb=>if b∈Ps then some (.gu #[]) else if b=a then some (.bQ { cls:=.type "list",data:=.seq vs.toArray } (.lst (ns.map V.int))) else none) (λb=>?_) (λb hb=>if_pos hb)
   (.inl ⟨{ cls:=.type "list",data:=.seq vs.toArray },(if_neg aP).trans (if_pos rfl)⟩) (λb u z=>?_) (λb z=>?_) λ_=>hk
  .by_cases hb:b∈Ps
   .exact .inr (.inr ⟨hb,if_pos hb⟩)
   .by_cases nY:b=a
    .exact .inr (.inl ⟨_,_,(if_neg hb).trans (if_pos nY)⟩)
    .exact .inl ((if_neg hb).trans (if_neg nY))
  .by_cases hb:b∈Ps
   .have z':=(if_pos hb).symm.trans z;cases z';exact zz b hb
   .by_cases nY:b=a
    .have z':=((if_neg hb).trans (if_pos nY)).symm.trans z;cases z';subst nY;exact⟨ha,by rw[List.length_map];exact hl,vs,_,rv,ha⟩
    .have z':=((if_neg hb).trans (if_neg nY)).symm.trans z;cases z'
  .by_cases hb:b∈Ps
   .exact .inr hb
   .by_cases nY:b=a
    .exact .inl nY
    .exact absurd ((if_neg hb).trans (if_neg nY)) z
theorem EM {l:W.OpenLaw}{n k:Nat}{q:Program}{loose:List Str}{XP:(Str->Option Value)->Heap->Prop}{YP:World->Heap->Prop}{d:DefRec}{K:Params->Fg}{CX:World->ku}{sp:World->Sp}{x:Str}(Ps:List Addr)
 (hn:l.most=some n) (hn2:n<=sizeLine) (DB:d.params.defaults=[]) (hr:cT k callerA) (hY:∀(w:World) (h:Heap),YP w h->(K w.params).In h)
 (zz:∀(w:World) (h:Heap),YP w h->(K w.params).In h->∀P∈Ps,∃c,W.CodeHd h c P/\h.get? P=some (W.tabObj #[])) (hKP:∀(w:World),∀P∈Ps,(K w.params).lookup P=none)
 (F:∀(w:World) (mg:Str->Option Value) (fa:Addr) (h:Heap),(K w.params).In h->h.Ns mainGlobals mg->mg d.name=some (.ref fa) ->
   ∃fd:FuncData,(∀(s:Sh) (u:Value),BindsTo s fd ⟨[u],[]⟩ [(x,u)]) /\
    ∀base:Heap,(K w.params).In base->base.Ns mainGlobals mg->p9 mg base->dM l.prog w (K w.params) mg base (CX w) k fa fd [x] (sp w))
 (uF:∀(w:World) (H:Hp) (a:Addr) (ns:List Int),ns.length<=n->(∀P∈Ps,H P=some (.gu #[]))->lT (K w.params) H a (ns.map V.int)->sp w [.ref a] H (λv _=>v = .bl true) λ_ _ _=>False)
 (hCX:∀(w:World) (H:Hp) (s:Sh) (e:Value) (s':Sh),CX w [] H s (λ_ _ _=>False) e s'->False):
 W.WalkO q loose XP YP l.row.toRowW d [] (λf vs=>PySem.call f vs):=by
 refine Att.x8 hn DB λw s₀ s₁ mg mb fa o pm cd doc a vs ns G Y ho hd sg DC FZ hints hlen hg=>?_;have KX:=hY w _ Y;obtain⟨fd,hb,hF⟩:=F w mg fa _ KX G.T.g DC;have hBm:p9 mg s₁.heap:=by obtain⟨bm,ob,b1,b2,b3,b4,b5,b6⟩:=G.T.bmain;refine⟨bm,ob,b1,b2,λz=>?_,b3,b4,b5,b6⟩;obtain⟨o,es,ep,e,d,_⟩:=G.T.g;rw[z,e] at b3;cases b3;rw[d] at b6;cases b6
 exact BU Ps KX G.T.g G.T.b G.T.builtins G.T.nolimit hg hBm (zz w _ Y KX) (hKP w) FZ hints (Nat.le_trans hlen hn2) hr hF hb (λH hP hS=>uF w H a ns hlen hP hS) λH e s'=>hCX w H s₁ e s'
theorem Ma {K:Fg}{W:bj}{f:List D->ae->RF.R D}{H:Hp}{a:Addr}{ns:List Int}{S':ae}(nd:W.T.cQ.Nodup)(ht:∀p∈W.tb,H p.1=some (.gu #[]))(h:f [.ref 0] [.cw (ns.map D.int)] = .ok (.bl true) S')(r:lT K H a (ns.map V.int)):nR K W f 1 [.ref a] H (λv _=>v = .bl true) λ_ _ _=>False:=by
 have relI:∀(M:List Addr) (l:List Int),ay M H (l.map D.int) (l.map V.int):=λM l=>by
  induction l with
  | nil=>exact .nil
  | cons x xs ih=>exact .cons (.int x) ih
 refine⟨rfl,[a],[.cw (ns.map D.int)],[.ref 0],⟨rfl,nd,λi j b h1 h2 r1 _=>?_,λi o b h1 h2=>?_,λp hp=>⟨#[],ht p hp,trivial,λpos cv h=>by cases h⟩⟩,.cons (.ref rfl) .nil,?_⟩
 .cases i with
  | zero=>simp[fF] at r1
  | succ i=>simp at h1
 .cases i with
  | zero=>simp at h1 h2;subst h1 h2;exact⟨_,r,relI _ _⟩
  | succ i=>simp at h1
 .rw[h];intro M' H' v _ _ rv;cases rv;rfl
def jK (g:RF.Fn):Bool:=(g.sc.kind == .function) && !g.sc.isCoroutine && !g.sc.isGenerator&&RF.jU g.N&&decide (g.N.take g.ps.length=g.ps)&&g.ps.all (λx=>g.sc.names.lookup x==some .local||g.sc.names.lookup x==some .cell)&&g.sc.names.all (λp=>p.2 != .free)
theorem qu {g:RF.Fn}(h:jK g=true):fZ g.N g.ps g.sc:=by
 unfold jK at h;simp only[Bool.and_eq_true,List.all_eq_true,decide_eq_true_eq,Bool.or_eq_true] at h;obtain⟨⟨⟨⟨⟨⟨h1,h2⟩,h3⟩,h4⟩,h5⟩,h6⟩,h7⟩:=h;refine⟨eq_of_beq h1,by simpa using h2,by simpa using h3,lV h4,h5,λx hx=>?_,λy hy=>?_⟩
 .rcases h6 x hx with z | z
  .exact .inl (eq_of_beq z)
  .exact .inr (eq_of_beq z)
 .simpa using h7 y hy
def AQ (K:Fg)(mg:Str->Option Value)(pr:RF.Prog)(x:Str)(i:Nat):Prop:=∃st g f fd,pr.fs[i]?=some st/\RF.fnOf st=some g/\gm K x x st f fd/\fZ g.N g.ps g.sc/\mg x=some (.ref f)/\Binds K fd g.ps []
theorem y8 {K:Fg}{mg:Str->Option Value}{pr:RF.Prog}{x:Str}{i:Nat}{st:Stmt}{g:RF.Fn}{f:Addr}{fd:FuncData}(F:gm K x x st f fd)(h1:pr.fs[i]?=some st)(h2:RF.fnOf st=some g)(h3:jK g=true)(h4:mg x=some (.ref f))(h5:Binds K fd g.ps []):AQ K mg pr x i:=
 ⟨st,g,f,fd,h1,h2,F,qu h3,h4,h5⟩
def z8 (K:Fg)(W:bj)(pr:RF.Prog)(c m:Nat)(x:Str):Prop:=∃st g f fd q,(pr.ms.find? λy=>y.1==c&&y.2.1==m)=some (c,m,st)/\RF.fnOf st=some g/\gm K x q st f fd/\fZ g.N g.ps g.sc/\Meth K (W.c c) x f/\jM K W.T c x fd g.ps/\(x = "__init__"->Mk K (W.c c) f)/\gB K (W.c c)
theorem kW {K:Fg}{W:bj}{pr:RF.Prog}{c m:Nat}{x q:Str}{st:Stmt}{g:RF.Fn}{f:Addr}{fd:FuncData}(F:gm K x q st f fd)(h1:(pr.ms.find? λy=>y.1==c&&y.2.1==m)=some (c,m,st))(h2:RF.fnOf st=some g)(h3:jK g=true)(h4:Meth K (W.c c) x f)(h5:jM K W.T c x fd g.ps)(h6:x = "__init__"->Mk K (W.c c) f)(h7:gB K (W.c c)):z8 K W pr c m x:=
 ⟨st,g,f,fd,q,h1,h2,F,qu h3,h4,h5,h6,h7⟩
theorem lookup_mem {l:List (Str×D)}{x:Str}{d:D}(h:l.lookup x=some d):∃p,p∈l/\x=p.1/\d=p.2:=⟨(x,d),PySem.mem_of_lookup h,rfl,rfl⟩
def vh (K:Fg)(T:Tab)(tb:List (Addr×Str))(f:List D->ae->RF.R D):Sp:=λvs H Q E=>vs.length=1/\∀W:bj,W.T=T->W.tb=tb->nR K W f 1 vs H Q E
theorem L9 {P:Program}{w:World}{K:Fg}{mg:Str->Option Value}{base:Heap}{W:bj}{pr:RF.Prog}{n i:Nat}{st:Stmt}{g:RF.Fn}{f:Addr}{fd:FuncData}{x:Str}(G:A6 P w K mg base W pr)(F:gm K x x st f fd)(h1:pr.fs[i]?=some st)(h2:RF.fnOf st=some g)(h3:jK g=true)(h4:g.ps=[Str.ofString "_law_script"]):
 dM P w K mg base (kQ P w) (4*n+4) f fd ["_law_script"] (vh K pr.T W.tb ((RF.calls pr (n+1)).f i)):=by
 have e:(RF.calls pr (n+1)).f i=RF.gF W.T (RF.calls pr n) g:=by
  funext vs S
  show (match pr.fn i with | some g=>RF.gF pr.T (RF.calls pr n) g vs S | none=>.bad)=_;unfold RF.Prog.fn;rw[h1,Option.bind_some,h2,G.T]
 rw[e];have R:=vP F h2 (qu h3) (Cg G n);rw[h4] at R;exact R.imp λvs H Q E z=>z.2 W G.T rfl
end L2
namespace L2
open PySem
end L2
namespace Q42
open PySem
noncomputable def T:RF.Tab where
 cons:=[("VALUE_MOST",.int 999),("SIDE_MOST",.int 7),("SIGNS",.str "abcdefghijklmnopqrstuvwxyz0123456789"),("PART_LONGEST",.int 4),("NAME_LONGEST",.int 5),("ROOM_MOST",.int 9),("WAIT_LEAST",.int 1),("WAIT_MOST",.int 20)]
 cQ:="__init__" :: "__len__" :: "aged" :: "answered" :: "append" :: "ask" :: "asked" :: "askers" :: "beside" :: "come" :: "end" :: "ended" :: "ends" :: "extend" :: "found" :: "get" :: "got" :: "heard" :: "held" :: "insert" :: "kept" :: "learned" :: "noes" :: "number" :: "patience" :: "pop" :: "put" :: "remove" :: "room" :: "sides" :: "since" :: "store" :: "teach" :: "things" :: "tick" :: "told" :: "told_no" :: "told_thing" :: "toward" :: "waiting" :: "way" :: []
 eB:="is_whole" :: "is_within" :: "is_value" :: "is_side" :: "is_tick" :: "is_sides" :: "need_within" :: "need_value" :: "need_tick" :: "need_sides" :: "is_part" :: "is_name" :: "is_beginning" :: "need_name" :: "need_beginning" :: "is_letter" :: "_law_cell" :: "_law_drawn" :: "_law_roll" :: "_law_rounds" :: "_law_head" :: "_law_any_name" :: "_law_some_sides" :: "_law_some_letter" :: "_law_made_of" :: "law" :: []
 fU:="Keeps" :: "Table" :: "Wait" :: "House" :: []
 Bj:="BadName" :: "BadSides" :: "BadNumber" :: "BadLetter" :: "NoWay" :: []
 meths:=(0,0)::(0,26)::(0,16)::(0,2)::(0,1)::(1,0)::(1,26)::(1,40)::(1,29)::(1,1)::(2,0)::(3,0)::(3,5)::(3,9)::(3,34)::(3,32)::(3,10)::(3,38)::(3,14)::(3,3)::(3,37)::(3,36)::(3,11)::(3,35)::[]
 kwo:=[(3,[("room",.int 4),("wait",.int 6)])]
 pay:=[]
noncomputable def P:RF.Prog where
 T:=T
 fs:=[top 12,top 13,top 14,top 15,top 16,top 17,top 18,top 19,top 21,top 22,top 27,top 28,top 29,top 30,top 31,top 40,top 44,top 45,top 46,top 47,top 48,top 49,top 50,top 51,top 52,top 53]
 ms:=(0,0,aD (top 34) 0)::(0,26,aD (top 34) 1)::(0,16,aD (top 34) 2)::(0,2,aD (top 34) 3)::(0,1,aD (top 34) 5)::(1,0,aD (top 36) 0)::(1,26,aD (top 36) 1)::(1,40,aD (top 36) 3)::(1,29,aD (top 36) 4)::(1,1,aD (top 36) 8)::(2,0,aD (top 41) 0)::(3,0,aD (top 42) 0)::(3,5,aD (top 42) 1)::(3,9,aD (top 42) 2)::(3,34,aD (top 42) 3)::(3,32,aD (top 42) 6)::(3,10,aD (top 42) 8)::(3,38,aD (top 42) 14)::(3,14,aD (top 42) 15)::(3,3,aD (top 42) 16)::(3,37,aD (top 42) 17)::(3,36,aD (top 42) 18)::(3,11,aD (top 42) 19)::(3,35,aD (top 42) 20)::[]
end Q42
namespace RF
open PySem
noncomputable def Wp {α:Type}(r:R α)(Q:α->ae->Prop):Prop:=match r with
 | .ok a S=>Q a S
 | _=>False
theorem va {α:Type}{a:α}{S:ae}{Q:α->ae->Prop}(h:Q a S):Wp (.ok a S) Q:=h
theorem wp_bind {α β:Type}{r:R α}{f:α->ae->R β}{Q:β->ae->Prop}(h:Wp r λa S=>Wp (f a S) Q):Wp (r.bind f) Q:=by
 cases r with
 | ok a S=>exact h
 | bad=>exact h.elim
theorem wp_mono {α:Type}{r:R α}{Q Q':α->ae->Prop}(h:Wp r Q)(m:∀a S,Q a S->Q' a S):Wp r Q':=by
 cases r with
 | ok a S=>exact m _ _ h
 | bad=>exact h.elim
theorem vg {α:Type}{r:R α}{Q:α->ae->Prop}(h:Wp r Q):∃a S,r = .ok a S/\Q a S:=by
 cases r with
 | ok a S=>exact⟨a,S,rfl,h⟩
 | bad=>exact h.elim
theorem ak {α:Type}{r:R α}{a:α}{S:ae}{Q:α->ae->Prop}(e:r = .ok a S)(h:Q a S):Wp r Q:=by rw[e];exact h
theorem cJ {α:Type}{b:Bool}{r:R α}{Q:α->ae->Prop}(hb:b=true)(h:Wp r Q):Wp (aB b r) Q:=by rw[hb];exact h
structure En where
 nx:Env->ae->Prop
 rt:D->ae->Prop
 bk:Env->ae->Prop:=λ_ _=>False
 ct:Env->ae->Prop:=λ_ _=>False
noncomputable def Wf (r:F)(Q:En):Prop:=match r with
 | .nx ρ S=>Q.nx ρ S
 | .rt d S=>Q.rt d S
 | .bk ρ S=>Q.bk ρ S
 | .ct ρ S=>Q.ct ρ S
 | _=>False
theorem du {α:Type}{r:R α}{f:α->ae->F}{Q:En}(h:Wp r λa S=>Wf (f a S) Q):Wf (dI r f) Q:=by
 cases r with
 | ok a S=>exact h
 | bad=>exact h.elim
theorem Ib {r:F}{k:CS}{Q:En}(h:Wf r { Q with nx:=λρ S=>Wf (k ρ S) Q }):Wf (r.then k) Q:=by
 cases r with
 | nx ρ S=>exact h
 | rt d S=>exact h
 | bk ρ S=>exact h
 | ct ρ S=>exact h
 | bad=>exact h.elim
theorem aH {r:F}{Q:D->ae->Prop}(h:Wf r { nx:=λ_ S=>Q .aj S,rt:=Q }):Wp (a9 r) Q:=by
 cases r with
 | nx ρ S=>exact h
 | rt d S=>exact h
 | bk ρ S=>exact h.elim
 | ct ρ S=>exact h.elim
 | bad=>exact h.elim
theorem gk {r:F}{Q Q':En}(h:Wf r Q)(h1:∀ρ S,Q.nx ρ S->Q'.nx ρ S)(h2:∀d S,Q.rt d S->Q'.rt d S)(h3:∀ρ S,Q.bk ρ S->Q'.bk ρ S:=by intros;assumption)(h4:∀ρ S,Q.ct ρ S->Q'.ct ρ S:=by intros;assumption):Wf r Q':=by
 cases r with
 | nx ρ S=>exact h1 _ _ h
 | rt d S=>exact h2 _ _ h
 | bk ρ S=>exact h3 _ _ h
 | ct ρ S=>exact h4 _ _ h
 | bad=>exact h.elim
theorem j5 {chk:ae->Bool}{is:List Nat}{one:Bool}{b:CS}{Q:En}{items:List D}(Inv:Nat->Env->ae->Prop){ρ:Env}{S:ae}(h0:Inv 0 ρ S)(hc:∀i ρ S,i<=items.length->Inv i ρ S->chk S=true)
 (hs:∀i x ρ S,items[i]?=some x->Inv i ρ S->∃ρ1,oS is one x ρ=some ρ1/\Wf (b ρ1 S) { nx:=Inv (i+1),ct:=Inv (i+1),bk:=Q.nx,rt:=Q.rt }) (hd:∀ρ S,Inv items.length ρ S->Q.nx ρ S):Wf (e6 chk is one b items ρ S) Q:=by
 have go:∀(l:List D) (i:Nat) (ρ:Env) (S:ae),items.drop i=l->i<=items.length->Inv i ρ S->Wf (e6 chk is one b l ρ S) Q:=by
  intro l
  induction l with
  | nil=>
   intro i ρ S hl hi h;have:i=items.length:=by have:=congrArg List.length hl;simp at this;omega
   subst this;unfold e6;rw[if_pos (hc _ _ _ (Nat.le_refl _) h)];exact hd _ _ h
  | cons x xs ih=>
   intro i ρ S hl hi h;have hx:items[i]?=some x:=by have:=congrArg (λl=>l[0]?) hl;simpa using this
   have de:i<items.length:=(List.getElem?_eq_some_iff.mp hx).1;have hr:items.drop (i+1)=xs:=by have:=congrArg List.tail hl;simpa using this
   unfold e6;rw[if_pos (hc _ _ _ hi h)];obtain⟨ρ1,e,w⟩:=hs i x ρ S hx h;rw[e];show Wf (G0 (b ρ1 S) (e6 chk is one b xs)) Q;cases ev:b ρ1 S with
   | nx ρ2 S2=>rw[ev] at w;exact ih (i+1) ρ2 S2 hr de w
   | ct ρ2 S2=>rw[ev] at w;exact ih (i+1) ρ2 S2 hr de w
   | bk ρ2 S2=>rw[ev] at w;exact w
   | rt d S2=>rw[ev] at w;exact w
   | bad=>rw[ev] at w;exact w.elim
 exact go items 0 ρ S rfl (Nat.zero_le _) h0
theorem yT {chk:ae->Bool}{is:List Nat}{one:Bool}{t:C Bool}{e:C D}{ρ:Env}{items:List D}{Q:List D->ae->Prop}(Inv:Nat->List D->ae->Prop){S:ae}(h0:Inv 0 [] S)(hc:∀i ys S,i<=items.length->Inv i ys S->chk S=true)
 (hs:∀i x ys S,items[i]?=some x->Inv i ys S->∃ρ1,oS is one x ρ=some ρ1/\Wp (t ρ1 S) λb S1=>if b=true then Wp (bL e ys ρ1 S1) λys' S2=>Inv (i+1) ys' S2 else Inv (i+1) ys S1) (hd:∀ys S,Inv items.length ys S->Q ys S):Wp (bF chk is one t (bL e) ρ items [] S) Q:=by
 have go:∀(l:List D) (i:Nat) (ys:List D) (S:ae),items.drop i=l->i<=items.length->Inv i ys S->Wp (bF chk is one t (bL e) ρ l ys S) Q:=by
  intro l
  induction l with
  | nil=>
   intro i ys S hl hi h;have:i=items.length:=by have:=congrArg List.length hl;simp at this;omega
   subst this;unfold bF;rw[if_pos (hc _ _ _ (Nat.le_refl _) h)];exact hd _ _ h
  | cons x xs ih=>
   intro i ys S hl hi h;have hx:items[i]?=some x:=by have:=congrArg (λl=>l[0]?) hl;simpa using this
   have de:i<items.length:=(List.getElem?_eq_some_iff.mp hx).1;have hr:items.drop (i+1)=xs:=by have:=congrArg List.tail hl;simpa using this
   unfold bF;rw[if_pos (hc _ _ _ hi h)];obtain⟨ρ1,e1,w⟩:=hs i x ys S hx h;simp only[e1];refine wp_bind (wp_mono w λb S1 w=>?_);cases b with
   | true=>rw[if_pos rfl] at w ⊢;exact wp_bind (wp_mono w λy S2 w=>ih (i+1) _ S2 hr de w)
   | false=>rw[if_neg (by decide)] at w ⊢;exact ih (i+1) ys S1 hr de w
 exact go items 0 [] S rfl (Nat.zero_le _) h0
@[irreducible] noncomputable def ag (P:Prog)(n:Nat):Calls:=calls P n
theorem ar (P:Prog)(n:Nat):ag P n=calls P n:=by unfold ag;rfl
end RF
namespace Q42
open RF PySem
noncomputable abbrev qN (n:Nat)(s:Src)(is:List Nat)(one:Bool)(t:C Bool)(e:C D):C (List D):=hV n s is one t (bL e) []
noncomputable abbrev fG (n:Nat)(s:Src)(is:List Nat)(one:Bool)(t:C Bool)(e:C D):C D:=λρ S=>(hV n s is one t (bL e) [] ρ S).bind λys S1=>fz (.lst ys) S1
noncomputable def Av (cl:Calls):CS:=(ah [(retS (j4 (nO .int (aa 0)) (E5 (nO .bool (aa 0)))))])
theorem AW (n:Nat)(v0:D)(S:ae):(ag P (n+1)).f 0 [v0] S=a9 (Av (ag P n) [some v0] S):=by simp only[ar];rfl
noncomputable def oR (cl:Calls):CS:=(ah [(retS (j4 (ao (cl.f 0) [(aa 0)]) (iq .LtE .LtE (aa 1) (aa 0) (aa 2))))])
theorem ye (n:Nat)(v0 v1 v2:D)(S:ae):(ag P (n+1)).f 1 [v0,v1,v2] S=a9 (oR (ag P n) [some v0,some v1,some v2] S):=by simp only[ar];rfl
noncomputable def rN (cl:Calls):CS:=(ah [(retS (ao (cl.f 1) [(aa 0),(cE (.int 0)),(cE (.int 999))]))])
theorem Ad (n:Nat)(v0:D)(S:ae):(ag P (n+1)).f 2 [v0] S=a9 (rN (ag P n) [some v0] S):=by simp only[ar];rfl
noncomputable def tJ (cl:Calls):CS:=(ah [(retS (ao (cl.f 1) [(aa 0),(cE (.int 0)),(cE (.int 7))]))])
theorem BG (n:Nat)(v0:D)(S:ae):(ag P (n+1)).f 3 [v0] S=a9 (tJ (ag P n) [some v0] S):=by simp only[ar];rfl
noncomputable def uv (cl:Calls):CS:=(ah [(retS (j4 (ao (cl.f 0) [(aa 0)]) (aC .GtE (aa 0) (cE (.int 0)))))])
theorem CT (n:Nat)(v0:D)(S:ae):(ag P (n+1)).f 4 [v0] S=a9 (uv (ag P n) [some v0] S):=by simp only[ar];rfl
noncomputable def qD (cl:Calls):CS:=(ah [(bA (eK (dj (nO .list (aa 0)))) (ah [(retS (cE (.bl false)))]) (ah [])),(bA (eK (dj (sU (qN 1 (.dyn (aa 0)) [0] true always (ao (cl.f 3) [(aa 0)]))))) (ah [(retS (cE (.bl false)))]) (ah [])),(retS (aC .Eq (oM (aa 0)) (dQ T.aS cl.m (some 1) (aa 0))))])
theorem zW (n:Nat)(v0:D)(S:ae):(ag P (n+1)).f 5 [v0] S=a9 (qD (ag P n) [some v0] S):=by simp only[ar];rfl
noncomputable def my (cl:Calls):CS:=(ah [(bA (eK (dj (ao (cl.f 1) [(aa 0),(aa 1),(aa 2)]))) (ah [bN]) (ah []))])
theorem uL (n:Nat)(v0 v1 v2:D)(S:ae):(ag P (n+1)).f 6 [v0,v1,v2] S=a9 (my (ag P n) [some v0,some v1,some v2] S):=by simp only[ar];rfl
noncomputable def mT (cl:Calls):CS:=(ah [(aU (ao (cl.f 6) [(aa 0),(cE (.int 0)),(cE (.int 999))]))])
theorem vE (n:Nat)(v0:D)(S:ae):(ag P (n+1)).f 7 [v0] S=a9 (mT (ag P n) [some v0] S):=by simp only[ar];rfl
noncomputable def oQ (cl:Calls):CS:=(ah [(bA (eK (dj (ao (cl.f 4) [(aa 0)]))) (ah [bN]) (ah []))])
theorem xY (n:Nat)(v0:D)(S:ae):(ag P (n+1)).f 8 [v0] S=a9 (oQ (ag P n) [some v0] S):=by simp only[ar];rfl
noncomputable def m9 (cl:Calls):CS:=(ah [(bA (eK (dj (ao (cl.f 5) [(aa 0)]))) (ah [bN]) (ah []))])
theorem vW (n:Nat)(v0:D)(S:ae):(ag P (n+1)).f 9 [v0] S=a9 (m9 (ag P n) [some v0] S):=by simp only[ar];rfl
noncomputable def B0 (cl:Calls):CS:=(ah [(bA (lh (eK (dj (nO .str (aa 0)))) (eK (aq (iq .LtE .LtE (cE (.int 1)) (dQ T.aS cl.m (some 1) (aa 0)) (cE (.int 4)))))) (ah [(retS (cE (.bl false)))]) (ah [])),(retS (sU (qN 1 (.dyn (aa 0)) [0] true always (aC .In (aa 0) (cE (.str "abcdefghijklmnopqrstuvwxyz0123456789"))))))])
theorem CC (n:Nat)(v0:D)(S:ae):(ag P (n+1)).f 10 [v0] S=a9 (B0 (ag P n) [some v0] S):=by simp only[ar];rfl
noncomputable def uz (cl:Calls):CS:=(ah [(bA (lh (eK (dj (nO .tuple (aa 0)))) (eK (aq (iq .LtE .LtE (cE (.int 1)) (dQ T.aS cl.m (some 1) (aa 0)) (cE (.int 5)))))) (ah [(retS (cE (.bl false)))]) (ah [])),(retS (sU (qN 1 (.dyn (aa 0)) [0] true always (ao (cl.f 10) [(aa 0)]))))])
theorem ud (n:Nat)(v0:D)(S:ae):(ag P (n+1)).f 11 [v0] S=a9 (uz (ag P n) [some v0] S):=by simp only[ar];rfl
noncomputable def kR (cl:Calls):CS:=(ah [(retS (G9 (ao (cl.f 11) [(aa 0)]) (j4 (nO .tuple (aa 0)) (aC .Eq (dQ T.aS cl.m (some 1) (aa 0)) (cE (.int 0))))))])
theorem sE (n:Nat)(v0:D)(S:ae):(ag P (n+1)).f 12 [v0] S=a9 (kR (ag P n) [some v0] S):=by simp only[ar];rfl
noncomputable def pG (cl:Calls):CS:=(ah [(bA (eK (dj (ao (cl.f 11) [(aa 0)]))) (ah [bN]) (ah []))])
theorem x6 (n:Nat)(v0:D)(S:ae):(ag P (n+1)).f 13 [v0] S=a9 (pG (ag P n) [some v0] S):=by simp only[ar];rfl
noncomputable def jW (cl:Calls):CS:=(ah [(bA (eK (dj (ao (cl.f 12) [(aa 0)]))) (ah [bN]) (ah []))])
theorem qq (n:Nat)(v0:D)(S:ae):(ag P (n+1)).f 14 [v0] S=a9 (jW (ag P n) [some v0] S):=by simp only[ar];rfl
noncomputable def kI (cl:Calls):CS:=(ah [(bA (lh (eK (dj (nO .tuple (aa 0)))) (lh (aq (aC .Lt (dQ T.aS cl.m (some 1) (aa 0)) (cE (.int 2)))) (eK (dj (ao (cl.f 11) [(bh (aa 0) (cE (.int 1)))]))))) (ah [(retS (cE (.bl false)))]) (ah [])),(bA (aq (aC .Eq (bh (aa 0) (cE (.int 0))) (cE (.str "thing")))) (ah [(retS (j4 (aC .Eq (dQ T.aS cl.m (some 1) (aa 0)) (cE (.int 4))) (j4 (ao (cl.f 2) [(bh (aa 0) (cE (.int 2)))]) (ao (cl.f 4) [(bh (aa 0) (cE (.int 3)))]))))]) (ah [])),(retS (j4 (aC .In (bh (aa 0) (cE (.int 0))) (ba [(cE (.str "ask")),(cE (.str "no"))])) (aC .Eq (dQ T.aS cl.m (some 1) (aa 0)) (cE (.int 2)))))])
theorem oV (n:Nat)(v0:D)(S:ae):(ag P (n+1)).f 15 [v0] S=a9 (kI (ag P n) [some v0] S):=by simp only[ar];rfl
noncomputable def qA (cl:Calls):CS:=(ah [(bA (aq (aC .Eq (aa 0) (bT []))) (ah [(retS (bz .Mult (aa 1) (cE (.int 7919))))]) (ah [])),(retS (bz .Add (bh (aa 0) (bz .Mod (aa 1) (dQ T.aS cl.m (some 1) (aa 0)))) (bz .Mult (bz .FloorDiv (aa 1) (dQ T.aS cl.m (some 1) (aa 0))) (cE (.int 104729)))))])
theorem AE (n:Nat)(v0 v1:D)(S:ae):(ag P (n+1)).f 16 [v0,v1] S=a9 (qA (ag P n) [some v0,some v1] S):=by simp only[ar];rfl
noncomputable def oY (cl:Calls):CS:=(ah [(a5 2 (bz .Mod (bz .Add (bz .Mult (aa 0) (cE (.int 6364136223846793005))) (bz .Mult (bz .Add (aa 1) (cE (.int 1))) (cE (.int 1442695040888963407)))) (cE (.int 340282366920938463463374607431768211507)))),(a5 2 (bz .Mod (bz .Mult (aa 2) (aa 2)) (cE (.int 340282366920938463463374607431768211297)))),(a5 2 (bz .Mult (bz .Mult (bz .Add (bz .Mod (aa 2) (cE (.int 18446744073709551557))) (cE (.int 1))) (bz .Add (bz .FloorDiv (aa 2) (cE (.int 18446744073709551557))) (cE (.int 1)))) (aa 2))),(retS (bz .Mod (aa 2) (cE (.int 340282366920938463463374607431768211507))))])
theorem xS (n:Nat)(v0 v1:D)(S:ae):(ag P (n+1)).f 17 [v0,v1] S=a9 (oY (ag P n) [some v0,some v1,none] S):=by simp only[ar];rfl
noncomputable def qF (cl:Calls):CS:=(ah [(bA (aq (aC .GtE (bh (aa 0) (cE (.int 0))) (bz .Pow (cE (.int 10)) (cE (.int 18))))) (ah [(a5 2 (bz .Mod (bh (aa 0) (cE (.int 0))) (aa 1))),(fJ (aa 0) (cE (.int 0)) (bz .FloorDiv (bh (aa 0) (cE (.int 0))) (aa 1))),(retS (aa 2))]) (ah [])),(fJ (aa 0) (cE (.int 1)) (bz .Add (bh (aa 0) (cE (.int 1))) (cE (.int 1)))),(retS (bz .Mod (bz .FloorDiv (ao (cl.f 17) [(bh (aa 0) (cE (.int 0))),(bh (aa 0) (cE (.int 1)))]) (cE (.int 8))) (aa 1)))])
theorem zH (n:Nat)(v0 v1:D)(S:ae):(ag P (n+1)).f 18 [v0,v1] S=a9 (qF (ag P n) [some v0,some v1,none] S):=by simp only[ar];rfl
noncomputable def nM (cl:Calls):CS:=(ah [(retS (fG 1 (.range (ao (cx .max2) [(cE (.int 1)),(ao (cx .min2) [(aa 1),(dQ T.aS cl.m (some 1) (aa 0))])])) [0] true always (bT [(ao (cl.f 16) [(aa 1),(aa 0)]),(cE (.int 0))])))])
theorem wV (n:Nat)(v0 v1:D)(S:ae):(ag P (n+1)).f 19 [v0,v1] S=a9 (nM (ag P n) [some v0,some v1] S):=by simp only[ar];rfl
noncomputable def qT (cl:Calls):CS:=(ah [(a5 1 (bT [(cE (.str "a")),(cE (.str "b")),(cE (.str "c")),(cE (.str "x9")),(cE (.str "long"))])),(retS (rq (qN 1 (.range (ao (cl.f 18) [(aa 0),(cE (.int 5))])) [0] true always (bh (aa 2) (bz .Mult (ao (cl.f 18) [(aa 1),(cE (.int 5))]) (ao (cl.f 18) [(aa 1),(cE (.int 2))]))))))])
theorem AV (n:Nat)(v0:D)(S:ae):(ag P (n+1)).f 20 [v0] S=a9 (qT (ag P n) [some v0,none] S):=by simp only[ar];rfl
noncomputable def lu (cl:Calls):CS:=(ah [(retS (rR (aq (aC .Eq (ao (cl.f 18) [(aa 0),(cE (.int 3))]) (cE (.int 0)))) (ba [(cE (.str "a"))]) (bz .Add (ao (cl.f 20) [(aa 0)]) (ba [(bh (bT [(cE (.str "a")),(cE (.str "b"))]) (ao (cl.f 18) [(aa 0),(cE (.int 2))]))]))))])
theorem sM (n:Nat)(v0:D)(S:ae):(ag P (n+1)).f 21 [v0] S=a9 (lu (ag P n) [some v0] S):=by simp only[ar];rfl
noncomputable def jR (cl:Calls):CS:=(ah [(a5 2 (bT [])),(fh (.dyn (aa 1)) [3] true (ah [(bA (aq (aC .Eq (ao (cl.f 18) [(aa 0),(cE (.int 2))]) (cE (.int 0)))) (ah [(aU (aF T.aS cl.m (some 19) (some .insert) (aa 2) [(ao (cl.f 18) [(aa 0),(bz .Add (dQ T.aS cl.m (some 1) (aa 2)) (cE (.int 1)))]),(aa 3)]))]) (ah []))])),(retS (aa 2))])
theorem p6 (n:Nat)(v0 v1:D)(S:ae):(ag P (n+1)).f 22 [v0,v1] S=a9 (jR (ag P n) [some v0,some v1,none,none] S):=by simp only[ar];rfl
noncomputable def jn (cl:Calls):CS:=(ah [(a5 2 (ao (cl.f 21) [(aa 0)])),(a5 3 (ao (cl.f 18) [(aa 0),(cE (.int 4))])),(bA (aq (aC .Lt (aa 3) (cE (.int 2)))) (ah [(retS (ba [(cE (.str "ask")),(aa 2)]))]) (ah [])),(retS (rR (aq (aC .Eq (aa 3) (cE (.int 2)))) (ba [(cE (.str "thing")),(aa 2),(ao (cl.f 18) [(aa 0),(cE (.int 1000))]),(ao (cx .max2) [(cE (.int 0)),(bz .Sub (bz .Add (aa 1) (ao (cl.f 18) [(aa 0),(cE (.int 8))])) (cE (.int 2)))])]) (ba [(cE (.str "no")),(aa 2)])))])
theorem oN (n:Nat)(v0 v1:D)(S:ae):(ag P (n+1)).f 23 [v0,v1] S=a9 (jn (ag P n) [some v0,some v1,none,none] S):=by simp only[ar];rfl
noncomputable def mv (cl:Calls):CS:=(ah [(retS (ba [(ao (cl.f 18) [(aa 0),(cE (.int 5))]),(bz .Add (cE (.int 1)) (bh (bT [(ao (cl.f 18) [(aa 0),(cE (.int 4))]),(ao (cl.f 18) [(aa 0),(cE (.int 20))])]) (ao (cl.f 18) [(aa 0),(cE (.int 2))])))]))])
theorem uY (n:Nat)(v0:D)(S:ae):(ag P (n+1)).f 24 [v0] S=a9 (mv (ag P n) [some v0] S):=by simp only[ar];rfl
noncomputable def zU (cl:Calls):CS:=(ah [(jB je (ao (cl.f 19) [(aa 0),(cE (.int 3))]) 1 (ah [(kF [2,3,4] [(ao (cl.f 24) [(aa 1)]),(bT [(cE (.int 1)),(cE (.int 2)),(cE (.int 3))]),(cE (.int 0))]),(kF [5,6,7] [(ie (cl.m 3 0) 3 [(cE (.int 0)),(aa 3)] (T.dt 3) ["room","wait"] [(bh (aa 2) (cE (.int 0))),(bh (aa 2) (cE (.int 1)))]),(bT []),g8]),(a5 8 (bT [])),(fh (.dyn (bT [(ba []),(ba [(cE (.str "a"))])])) [9] true (ah [(aU (aF T.aS cl.m (some 32) none (aa 5) [(aa 9),(ao (cl.f 22) [(aa 1),(aa 3)])]))])),(fh (.range (ao (cl.f 18) [(aa 1),(cE (.int 41))])) [10] true (ah [(a5 11 (ao (cl.f 18) [(aa 1),(cE (.int 4))])),(bA (aq (aC .Eq (aa 11) (cE (.int 0)))) (ah [(a5 4 (bz .Add (aa 4) (cE (.int 1)))),(aU (aF T.aS cl.m (some 34) none (aa 5) [(aa 4)]))]) (ah [(bA (aq (aC .Eq (aa 11) (cE (.int 1)))) (ah [(a5 12 (ao (cl.f 21) [(aa 1)])),(aU (aF T.aS cl.m (some 4) (some .append) (aa 6) [(ba [(bh (aF T.aS cl.m (some 5) none (aa 5) [(aa 12),(aa 4)]) (cE (.int 0))),(aa 12),(aa 4)])]))]) (ah [(a5 13 (ao (cl.f 23) [(aa 1),(aa 4)])),(bA (eA (aq (aC .NotEq (aa 6) (bT []))) (aq (aC .Eq (ao (cl.f 18) [(aa 1),(cE (.int 2))]) (cE (.int 0))))) (ah [(a5 13 (bz .Add (ba [(bh (aa 13) (cE (.int 0))),(bh (bh (aa 6) (ao (cl.f 18) [(aa 1),(dQ T.aS cl.m (some 1) (aa 6))])) (cE (.int 1)))]) (fN (aa 13) (some (cE (.int 2))) none)))]) (ah [])),(aU (aF T.aS cl.m (some 9) none (aa 5) [(bz .Add (cE (.int 1)) (ao (cl.f 18) [(aa 1),(cE (.int 3))])),(aa 13),(aa 4)])),(bA (aq (aC .Eq (bh (aa 13) (cE (.int 0))) (cE (.str "thing")))) (ah [(aU (aF T.aS cl.m (some 4) (some .append) (aa 8) [(aa 13)]))]) (ah []))]))])),(fh (.dyn (aa 6)) [14,12,15] false (ah [(a5 16 (aF T.aS cl.m (some 10) none (aa 5) [(aa 14)])),(bA (eA (aq (aC .In (aa 14) (aa 7))) (aq (aC .NotEq (bh (bh (aa 7) (aa 14)) (cE (.int 0))) (aa 16)))) (ah [(retS (cE (.bl false)))]) (ah [])),(bA (eA (aq (aC .NotIn (aa 14) (aa 7))) (aq (aC .NotEq (aa 16) (ba [])))) (ah [(a5 17 (fG 1 (.dyn (aa 8)) [0] true (eA (aq (aC .Eq (fN (aa 0) (some (cE (.int 1))) (some (cE (.int 3)))) (ba [(aa 13),(bh (aa 17) (cE (.int 0)))]))) (aq (aC .GtE (bh (aa 0) (cE (.int 3))) (aa 5)))) (aa 0))),(bA (eA (aq (aC .NotEq (aa 16) (ba [(cE .aj)]))) (aq (aC .Eq (aa 17) (bT [])))) (ah [(retS (cE (.bl false)))]) (ah [])),(fJ (aa 7) (aa 14) (ba [(aa 16)]))]) (ah [])),(bA (eA (aq (aC .Eq (aa 16) (ba []))) (aq (aC .GtE (bz .Sub (aa 4) (aa 15)) (bh (aa 2) (cE (.int 1)))))) (ah [(retS (cE (.bl false)))]) (ah []))]))]))])),(retS (cE (.bl true)))])
theorem Nc (n:Nat)(v0:D)(S:ae):(ag P (n+1)).f 25 [v0] S=a9 (zU (ag P n) [some v0,none,none,none,none,none,none,none,none,none,none,none,none,none,none,none,none,none] S):=by simp only[ar];rfl
noncomputable def nv (cl:Calls):CS:=(ah [(aU (ao (cl.f 6) [(aa 1),(cE (.int 0)),(cE (.int 9))])),(eT T.plain (aa 0) 28 (aa 1)),(eT T.plain (aa 0) 20 g8)])
theorem xn (n:Nat)(v0 v1:D)(S:ae):(ag P (n+1)).m 0 0 [v0,v1] S=a9 (nv (ag P n) [some v0,some v1] S):=by simp only[ar];rfl
noncomputable def pD (cl:Calls):CS:=(ah [(aU (ao (cl.f 13) [(aa 1)])),(aU (ao (cl.f 7) [(aa 2)])),(aU (ao (cl.f 8) [(aa 3)])),(aU (ao (cl.f 8) [(aa 4)])),(bA (aq (aC .In (aa 1) (aE (aa 0) 20))) (ah [(ma (aE (aa 0) 20) (aa 1))]) (ah [])),(bA (aq (aC .Gt (aa 3) (aa 4))) (ah [(fJ (aE (aa 0) 20) (aa 1) (ba [(aa 2),(aa 3)]))]) (ah [])),(bA (aq (aC .Gt (dQ T.aS cl.m (some 1) (aE (aa 0) 20)) (aE (aa 0) 28))) (ah [(ma (aE (aa 0) 20) (bh (ao (cx .list) [(aE (aa 0) 20)]) (cE (.int 0))))]) (ah []))])
theorem yc (n:Nat)(v0 v1 v2 v3 v4:D)(S:ae):(ag P (n+1)).m 0 26 [v0,v1,v2,v3,v4] S=a9 (pD (ag P n) [some v0,some v1,some v2,some v3,some v4] S):=by simp only[ar];rfl
noncomputable def oU (cl:Calls):CS:=(ah [(aU (ao (cl.f 13) [(aa 1)])),(aU (ao (cl.f 8) [(aa 2)])),(bA (lh (aq (aC .NotIn (aa 1) (aE (aa 0) 20))) (aq (aC .LtE (bh (bh (aE (aa 0) 20) (aa 1)) (cE (.int 1))) (aa 2)))) (ah [(retS (cE .aj))]) (ah [])),(a5 3 (aF T.aS cl.m (some 25) (some .pop) (aE (aa 0) 20) [(aa 1)])),(fJ (aE (aa 0) 20) (aa 1) (aa 3)),(retS (aa 3))])
theorem xT (n:Nat)(v0 v1 v2:D)(S:ae):(ag P (n+1)).m 0 16 [v0,v1,v2] S=a9 (oU (ag P n) [some v0,some v1,some v2,none] S):=by simp only[ar];rfl
noncomputable def nA (cl:Calls):CS:=(ah [(aU (ao (cl.f 8) [(aa 1)])),(a5 3 (fG 1 (.dyn (aE (aa 0) 20)) [0] true (aq (aC .LtE (bh (bh (aE (aa 1) 20) (aa 0)) (cE (.int 1))) (aa 2))) (aa 0))),(fh (.dyn (aa 3)) [2] true (ah [(ma (aE (aa 0) 20) (aa 2))])),(retS (aa 3))])
theorem xr (n:Nat)(v0 v1:D)(S:ae):(ag P (n+1)).m 0 2 [v0,v1] S=a9 (nA (ag P n) [some v0,some v1,none,none] S):=by simp only[ar];rfl
noncomputable def nu (cl:Calls):CS:=(ah [(eT T.plain (aa 0) 18 g8)])
theorem vG (n:Nat)(v0:D)(S:ae):(ag P (n+1)).m 1 0 [v0] S=a9 (nu (ag P n) [some v0] S):=by simp only[ar];rfl
noncomputable def oX (cl:Calls):CS:=(ah [(aU (ao (cl.f 14) [(aa 1)])),(aU (ao (cl.f 9) [(aa 2)])),(fJ (aE (aa 0) 18) (aa 1) (ao (cx .tuple) [(aa 2)]))])
theorem x5 (n:Nat)(v0 v1 v2:D)(S:ae):(ag P (n+1)).m 1 26 [v0,v1,v2] S=a9 (oX (ag P n) [some v0,some v1,some v2] S):=by simp only[ar];rfl
noncomputable def pq (cl:Calls):CS:=(ah [(aU (ao (cl.f 13) [(aa 1)])),(fh (.down (dQ T.aS cl.m (some 1) (aa 1))) [2] true (ah [(a5 3 (fN (aa 1) none (some (aa 2)))),(bA (aq (aC .In (aa 3) (aE (aa 0) 18))) (ah [(retS (ba [(aa 3),(ao (cx .list) [(bh (aE (aa 0) 18) (aa 3))])]))]) (ah []))])),(retS (cE .aj))])
theorem ya (n:Nat)(v0 v1:D)(S:ae):(ag P (n+1)).m 1 40 [v0,v1] S=a9 (pq (ag P n) [some v0,some v1,none,none] S):=by simp only[ar];rfl
noncomputable def mq (cl:Calls):CS:=(ah [(a5 2 (aF T.aS cl.m (some 40) none (aa 0) [(aa 1)])),(retS (rR (aq (aC .Is (aa 2) (cE .aj))) (bT []) (bh (aa 2) (cE (.int 1)))))])
theorem uW (n:Nat)(v0 v1:D)(S:ae):(ag P (n+1)).m 1 29 [v0,v1] S=a9 (mq (ag P n) [some v0,some v1,none] S):=by simp only[ar];rfl
noncomputable def oW (cl:Calls):CS:=(ah [(eT T.plain (aa 0) 30 (aa 1)),(eT T.plain (aa 0) 7 (bT [])),(eT T.plain (aa 0) 6 (bT [])),(eT T.plain (aa 0) 22 (bT []))])
theorem xV (n:Nat)(v0 v1:D)(S:ae):(ag P (n+1)).m 2 0 [v0,v1] S=a9 (oW (ag P n) [some v0,some v1] S):=by simp only[ar];rfl
noncomputable def nC (cl:Calls):CS:=(ah [(aU (ao (cl.f 6) [(aa 1),(cE (.int 0)),(cE (.int 7))])),(aU (ao (cl.f 9) [(aa 2)])),(bA (aq (aC .In (aa 1) (aa 2))) (ah [bN]) (ah [])),(eT T.plain (aa 0) 31 (ie (cl.m 0 0) 0 [(aa 3)] (T.dt 0) [] [])),(aU (ao (cl.f 6) [(aa 4),(cE (.int 1)),(cE (.int 20))])),(eT T.plain (aa 0) 23 (aa 1)),(eT T.plain (aa 0) 8 (ao (cx .list) [(aa 2)])),(eT T.plain (aa 0) 24 (aa 4)),(eT T.plain (aa 0) 21 (ie (cl.m 1 0) 1 [] (T.dt 1) [] [])),(eT T.plain (aa 0) 33 g8),(eT T.plain (aa 0) 39 g8),(eT T.plain (aa 0) 17 g8),(eT T.plain (aa 0) 12 (bT []))])
theorem wD (n:Nat)(v0 v1 v2 v3 v4:D)(S:ae):(ag P (n+1)).m 3 0 [v0,v1,v2,v3,v4] S=a9 (nC (ag P n) [some v0,some v1,some v2,some v3,some v4] S):=by simp only[ar];rfl
noncomputable def pk (cl:Calls):CS:=(ah [(aU (ao (cl.f 13) [(aa 1)])),(aU (ao (cl.f 8) [(aa 2)])),(a5 3 (dQ T.aS cl.m (some 1) (aE (aa 0) 12))),(aU (aF T.aS cl.m (some 4) (some .append) (aE (aa 0) 12) [(ba [])])),(retS (ba [(aa 3),(aF T.aS cl.m (some 3) none (aa 0) [(ba [(cE (.str "own")),(aa 3)]),(aa 1),(aa 2)])]))])
theorem yf (n:Nat)(v0 v1 v2:D)(S:ae):(ag P (n+1)).m 3 5 [v0,v1,v2] S=a9 (pk (ag P n) [some v0,some v1,some v2,none] S):=by simp only[ar];rfl
noncomputable def ig (cl:Calls):CS:=(ah [(bA (lh (eK (dj (ao (cl.f 0) [(aa 1)]))) (aq (aC .NotIn (aa 1) (aE (aa 0) 8)))) (ah [bN]) (ah [])),(bA (eK (dj (ao (cl.f 15) [(aa 2)]))) (ah [bN]) (ah [])),(aU (ao (cl.f 8) [(aa 3)])),(a5 4 (bh (aa 2) (cE (.int 1)))),(bA (aq (aC .Eq (bh (aa 2) (cE (.int 0))) (cE (.str "ask")))) (ah [(retS (aF T.aS cl.m (some 3) none (aa 0) [(aa 1),(aa 4),(aa 3)]))]) (ah [])),(bA (lh (aq (aC .NotIn (aa 4) (aE (aa 0) 39))) (aq (aC .NotIn (aa 1) (aE (bh (aE (aa 0) 39) (aa 4)) 6)))) (ah [(retS (bT []))]) (ah [])),(bA (lh (aq (aC .Eq (bh (aa 2) (cE (.int 0))) (cE (.str "no")))) (aq (aC .Lt (bh (aa 2) (cE (.int 3))) (aa 3)))) (ah [(retS (aF T.aS cl.m (some 36) none (aa 0) [(aa 1),(aa 4)]))]) (ah [])),(retS (aF T.aS cl.m (some 37) none (aa 0) [(aa 1),(aa 2),(aa 3)]))])
theorem jQ (n:Nat)(v0 v1 v2 v3:D)(S:ae):(ag P (n+1)).m 3 9 [v0,v1,v2,v3] S=a9 (ig (ag P n) [some v0,some v1,some v2,some v3,none] S):=by simp only[ar];rfl
noncomputable def nc (cl:Calls):CS:=(ah [(aU (ao (cl.f 8) [(aa 1)])),(aU (aF T.aS cl.m (some 2) none (aE (aa 0) 31) [(aa 1)])),(a5 3 (fG 1 (.dyn (aE (aa 0) 39)) [0] true (aq (aC .GtE (bz .Sub (aa 2) (aE (bh (aE (aa 1) 39) (aa 0)) 30)) (aE (aa 1) 24))) (aa 0))),(a5 4 (bT [])),(fh (.dyn (aa 3)) [2] true (ah [(qb 4 (aF T.aS cl.m (some 11) none (aa 0) [(aa 2)]))])),(retS (aa 4))])
theorem vz (n:Nat)(v0 v1:D)(S:ae):(ag P (n+1)).m 3 34 [v0,v1] S=a9 (nc (ag P n) [some v0,some v1,none,none,none] S):=by simp only[ar];rfl
noncomputable def mn (cl:Calls):CS:=(ah [(aU (aF T.aS cl.m (some 26) none (aE (aa 0) 21) [(aa 1),(aa 2)]))])
theorem uR (n:Nat)(v0 v1 v2:D)(S:ae):(ag P (n+1)).m 3 32 [v0,v1,v2] S=a9 (mn (ag P n) [some v0,some v1,some v2] S):=by simp only[ar];rfl
noncomputable def oP (cl:Calls):CS:=(ah [(bA (eK (dj (ao (cl.f 1) [(aa 1),(cE (.int 0)),(bz .Sub (dQ T.aS cl.m (some 1) (aE (aa 0) 12)) (cE (.int 1)))]))) (ah [bN]) (ah [])),(retS (bh (aE (aa 0) 12) (aa 1)))])
theorem yb (n:Nat)(v0 v1:D)(S:ae):(ag P (n+1)).m 3 10 [v0,v1] S=a9 (oP (ag P n) [some v0,some v1] S):=by simp only[ar];rfl
noncomputable def ly (cl:Calls):CS:=(ah [(retS (fG 1 (.dyn (aF T.aS cl.m (some 29) none (aE (aa 0) 21) [(aa 1)])) [0] true (aq (aC .In (aa 0) (aE (aa 1) 8))) (aa 0)))])
theorem sA (n:Nat)(v0 v1:D)(S:ae):(ag P (n+1)).m 3 38 [v0,v1] S=a9 (ly (ag P n) [some v0,some v1] S):=by simp only[ar];rfl
noncomputable def mC (cl:Calls):CS:=(ah [(bA (aq (aC .In (aa 1) (aE (aa 0) 33))) (ah [(tupS [3,4] (bh (aE (aa 0) 33) (aa 1))),(retS (ba [(aa 3),(bz .Add (aa 2) (aa 4))]))]) (ah [])),(a5 5 (aF T.aS cl.m (some 16) none (aE (aa 0) 31) [(aa 1),(aa 2)])),(bA (aq (aC .IsNot (aa 5) (cE .aj))) (ah [(retS (aa 5))]) (ah [])),(retS (aF T.aS cl.m (some 15) (some .get) (aE (aa 0) 17) [(ba [(aa 1),(aa 2)])]))])
theorem uP (n:Nat)(v0 v1 v2:D)(S:ae):(ag P (n+1)).m 3 14 [v0,v1,v2] S=a9 (mC (ag P n) [some v0,some v1,some v2,none,none,none] S):=by simp only[ar];rfl
noncomputable def jZ (cl:Calls):CS:=(ah [(a5 4 (aF T.aS cl.m (some 14) none (aa 0) [(aa 2),(aa 3)])),(bA (aq (aC .IsNot (aa 4) (cE .aj))) (ah [(retS (aF T.aS cl.m (some 35) none (aa 0) [(bT [(aa 1)]),(ba [(cE (.str "thing")),(aa 2),(bh (aa 4) (cE (.int 0))),(bh (aa 4) (cE (.int 1)))])]))]) (ah [])),(a5 5 (aF T.aS cl.m (some 15) (some .qx) (aE (aa 0) 39) [(aa 2),(ie (cl.m 2 0) 2 [(aa 3)] (T.dt 2) [] [])])),(bA (aq (aC .NotIn (aa 1) (aE (aa 5) 7))) (ah [(aU (aF T.aS cl.m (some 4) (some .append) (aE (aa 5) 7) [(aa 1)]))]) (ah [])),(a5 6 (fG 1 (.dyn (aF T.aS cl.m (some 38) none (aa 0) [(aa 2)])) [0] true (eA (aq (aC .NotIn (aa 0) (aE (aa 6) 6))) (eA (aq (aC .NotIn (aa 0) (aE (aa 6) 22))) (aq (aC .NotEq (aE (aa 6) 7) (bT [(aa 0)]))))) (aa 0))),(aU (aF T.aS cl.m (some 13) (some .extend) (aE (aa 5) 6) [(aa 6)])),(bA (eK (dj (aE (aa 5) 6))) (ah [(retS (aF T.aS cl.m (some 35) none (aa 0) [(bT [(aa 1)]),(ba [(cE (.str "no")),(aa 2)])]))]) (ah [])),(fJ (aE (aa 0) 39) (aa 2) (aa 5)),(retS (fG 1 (.dyn (aa 6)) [0] true always (ba [(aa 0),(ba [(cE (.str "ask")),(aa 3)])])))])
theorem p5 (n:Nat)(v0 v1 v2 v3:D)(S:ae):(ag P (n+1)).m 3 3 [v0,v1,v2,v3] S=a9 (jZ (ag P n) [some v0,some v1,some v2,some v3,none,none,none] S):=by simp only[ar];rfl
noncomputable def iW (cl:Calls):CS:=(ah [(tupS [4,5,6] (fN (aa 2) (some (cE (.int 1))) none)),(aU (aF T.aS cl.m (some 26) none (aE (aa 0) 31) [(aa 4),(aa 5),(aa 6),(aa 3)])),(fJ (aE (aa 0) 17) (ba [(aa 4),(aa 3)]) (ba [(aa 5),(aa 6)])),(a5 7 (aF T.aS cl.m (some 25) (some .pop) (aE (aa 0) 39) [(aa 4)])),(retS (aF T.aS cl.m (some 35) none (aa 0) [(fG 1 (.dyn (aE (aa 7) 7)) [0] true (aq (aC .NotEq (aa 0) (aa 2))) (aa 0)),(aa 2)]))])
theorem mV (n:Nat)(v0 v1 v2 v3:D)(S:ae):(ag P (n+1)).m 3 37 [v0,v1,v2,v3] S=a9 (iW (ag P n) [some v0,some v1,some v2,some v3,none,none,none,none] S):=by simp only[ar];rfl
noncomputable def kj (cl:Calls):CS:=(ah [(a5 3 (bh (aE (aa 0) 39) (aa 2))),(aU (aF T.aS cl.m (some 27) (some .remove) (aE (aa 3) 6) [(aa 1)])),(aU (aF T.aS cl.m (some 4) (some .append) (aE (aa 3) 22) [(aa 1)])),(retS (rR (dj (aE (aa 3) 6)) (bT []) (aF T.aS cl.m (some 11) none (aa 0) [(aa 2)])))])
theorem rn (n:Nat)(v0 v1 v2:D)(S:ae):(ag P (n+1)).m 3 36 [v0,v1,v2] S=a9 (kj (ag P n) [some v0,some v1,some v2,none] S):=by simp only[ar];rfl
noncomputable def mE (cl:Calls):CS:=(ah [(a5 2 (aF T.aS cl.m (some 25) (some .pop) (aE (aa 0) 39) [(aa 1)])),(retS (aF T.aS cl.m (some 35) none (aa 0) [(aE (aa 2) 7),(ba [(cE (.str "no")),(aa 1)])]))])
theorem uQ (n:Nat)(v0 v1:D)(S:ae):(ag P (n+1)).m 3 11 [v0,v1] S=a9 (mE (ag P n) [some v0,some v1,none] S):=by simp only[ar];rfl
noncomputable def mY (cl:Calls):CS:=(ah [(a5 3 (rR (aq (aC .Eq (bh (aa 2) (cE (.int 0))) (cE (.str "thing")))) (ba [(bh (aa 2) (cE (.int 2)))]) (ba [(cE .aj)]))),(a5 4 (bT [])),(fh (.dyn (aa 1)) [5] true (ah [(bA (dj (nO .tuple (aa 5))) (ah [(fJ (aE (aa 0) 12) (bh (aa 5) (cE (.int 1))) (aa 3))]) (ah [(aU (aF T.aS cl.m (some 4) (some .append) (aa 4) [(ba [(aa 5),(aa 2)])]))]))])),(retS (aa 4))])
theorem xi (n:Nat)(v0 v1 v2:D)(S:ae):(ag P (n+1)).m 3 35 [v0,v1,v2] S=a9 (mY (ag P n) [some v0,some v1,some v2,none,none,none] S):=by simp only[ar];rfl
end Q42
namespace RF
open PySem
variable {ρ:Env}{S:ae}{Q:D->ae->Prop}{QB:Bool->ae->Prop}{QL:List D->ae->Prop}{K:En}
theorem wF {i:Nat}{d:D}(h:ρ[i]?=some (some d))(q:Q d S):Wp (aa i ρ S) Q:=ak (by unfold aa;rw[h]) q
theorem FG {d:D}(q:Q d S):Wp (cE d ρ S) Q:=q
theorem xa {op:Operator}{a b:C D}(h:Wp (a ρ S) λx S1=>Wp (b ρ S1) λy S2=>Wp (gw op x y S2) Q):Wp (bz op a b ρ S) Q:=wp_bind (wp_mono h λ_ _ h=>wp_bind h)
theorem rb {op:CmpOp}{a b:C D}(h:Wp (a ρ S) λx S1=>Wp (b ρ S1) λy S2=>Wp (a7 op x y S2) Q):Wp (aC op a b ρ S) Q:=wp_bind (wp_mono h λ_ _ h=>wp_bind h)
theorem zS {a b:C D}(h:Wp (a ρ S) λx S1=>Wp (b ρ S1) λy S2=>Wp (dq x y S2) Q):Wp (bh a b ρ S) Q:=wp_bind (wp_mono h λ_ _ h=>wp_bind h)
theorem vM {a:C D}{f:Nat}(h:Wp (a ρ S) λx S1=>Wp (nH x f S1) Q):Wp (aE a f ρ S) Q:=wp_bind h
theorem zJ {a:C D}{k:Kd}(h:Wp (a ρ S) λx S1=>Wp (eo (nk S1 k x) S1) Q):Wp (nO k a ρ S) Q:=wp_bind h
theorem CP {a b:C D}(h:Wp (a ρ S) λx S1=>∃t,x = .bl t/\(t=true->Wp (b ρ S1) Q)/\(t=false->Q (.bl false) S1)):Wp (j4 a b ρ S) Q:=wp_bind (wp_mono h λx S1 ⟨t,e,q1,q2⟩=>by
 subst e;cases t with
 | true=>exact q1 rfl
 | false=>exact q2 rfl)
theorem D6 {o1 o2:CmpOp}{a b c:C D}(h:Wp (a ρ S) λx S1=>Wp (b ρ S1) λy S2=>Wp (a7 o1 x y S2) λr S3=>∃t,r = .bl t/\(t=true->Wp (c ρ S3) λz S4=>Wp (a7 o2 y z S4) Q)/\(t=false->Q (.bl false) S3)):Wp (iq o1 o2 a b c ρ S) Q:=
 wp_bind (wp_mono h λ_ _ h=>wp_bind (wp_mono h λ_ _ h=>wp_bind (wp_mono h λx S1 ⟨t,e,q1,q2⟩=>by
 subst e;cases t with
 | true=>exact wp_bind (va (wp_bind (q1 rfl)))
 | false=>exact q2 rfl)))
theorem Gr {c:C Bool}{a b:C D}(h:Wp (c ρ S) λt S1=>(t=true->Wp (a ρ S1) Q)/\(t=false->Wp (b ρ S1) Q)):Wp (rR c a b ρ S) Q:=wp_bind (wp_mono h λt S1 ⟨q1,q2⟩=>by
 cases t with
 | true=>exact q1 rfl
 | false=>exact q2 rfl)
theorem hU (q:QL [] S):Wp (b8 [] ρ S) QL:=q
theorem eC {c:C D}{cs:List (C D)}(h:Wp (c ρ S) λx S1=>Wp (b8 cs ρ S1) λxs S2=>QL (x::xs) S2):Wp (b8 (c::cs) ρ S) QL:=wp_bind (wp_mono h λ_ _ h=>wp_bind h)
theorem w5 {cs:List (C D)}(hb:big cs.length=true)(h:Wp (b8 cs ρ S) λxs S1=>Q (.tup xs) S1):Wp (ba cs ρ S) Q:=cJ hb (wp_bind h)
theorem wY {cs:List (C D)}(hb:big cs.length=true)(h:Wp (b8 cs ρ S) λxs S1=>Q (.ref S1.length) (S1++[.lst xs])):Wp (bT cs ρ S) Q:=cJ hb (wp_bind h)
theorem sx (q:Q (.ref S.length) (S++[.aG []])):Wp (g8 ρ S) Q:=q
theorem wp_call {f:List D->ae->R D}{cs:List (C D)}(h:Wp (b8 cs ρ S) λxs S1=>Wp (f xs S1) Q):Wp (ao f cs ρ S) Q:=wp_bind h
theorem HM {has:Nat->Nat->Bool}{call:Nat->Nat->List D->ae->R D}{m:Nat}{bm:Option Mt}{a:C D}{cs:List (C D)}(h:Wp (a ρ S) λx S1=>∃n c fs,x = .ref n/\S1[n]?=some (.obj c fs)/\((fs.lookup m).isNone&&has c m)=true/\Wp (b8 cs ρ S1) λxs S2=>Wp (call c m (x::xs) S2) Q):Wp (aF has call (some m) bm a cs ρ S) Q:=
 wp_bind (wp_mono h λx S1 ⟨n,c,fs,e,hn,hg,h⟩=>by subst e;simp only[hn];exact cJ hg (wp_bind h))
theorem gJ {has:Nat->Nat->Bool}{call:Nat->Nat->List D->ae->R D}{m:Option Nat}{bm:Mt}{a:C D}{cs:List (C D)}(h:Wp (a ρ S) λx S1=>∃n o,x = .ref n/\S1[n]?=some o/\vS bm o=true/\Wp (b8 cs ρ S1) λxs S2=>Wp (fE bm x xs S2) Q):Wp (aF has call m (some bm) a cs ρ S) Q:=
 wp_bind (wp_mono h λx S1 ⟨n,o,e,hn,hg,h⟩=>by
  subst e;cases o with
  | obj c fs=>cases bm<;>simp[vS] at hg
  | lst xs=>simp only[hn];exact cJ hg (wp_bind h)
  | cw xs=>simp only[hn];exact cJ hg (wp_bind h)
  | aG xs=>simp only[hn];exact cJ hg (wp_bind h)
  | dC xs=>simp only[hn];exact cJ hg (wp_bind h)
  | jr xs=>simp only[hn];exact cJ hg (wp_bind h))
noncomputable def nE (S:ae):D->Bool
 | .ref n=>match S[n]? with | some (.obj _ _)=>false | _=>true
 | _=>true
theorem nT {has:Nat->Nat->Bool}{call:Nat->Nat->List D->ae->R D}{m:Option Nat}{a:C D}(h:Wp (a ρ S) λx S1=>nE S1 x=true/\∃n:Nat,ny S1 x=some n/\Q (.int n) S1):Wp (dQ has call m a ρ S) Q:=
 wp_bind (wp_mono h λx S1 ⟨_,n,h2,q⟩=>ak (by show (match ny S1 x with | some n=>R.ok (D.int n) S1 | none=>.bad)=_;rw[h2]) q)
theorem oE {init:List D->ae->R D}{c:Nat}{cs ds:List (C D)}{kw:List (Str×D)}{ks:List Str}(h:Wp (b8 cs ρ S) λxs S1=>Wp (b8 ds ρ S1) λzs S2=>Wp (init (.ref S2.length::xs++n8 kw ks zs) (S2++[.obj c []])) λr S3=>r = .aj/\Q (.ref S2.length) S3):Wp (ie init c cs kw ks ds ρ S) Q:=
 wp_bind (wp_mono h λxs S1 h=>wp_bind (wp_mono h λzs S2 h=>wp_bind (wp_mono h λr S3 ⟨e,q⟩=>by subst e;exact q)))
theorem nL {a lo:C D}(h:Wp (a ρ S) λx S1=>Wp (lo ρ S1) λy S2=>∃i,y = .int i/\Wp (rJ x (some i) none S2) Q):Wp (fN a (some lo) none ρ S) Q:=
 wp_bind (wp_mono h λx S1 h=>wp_bind (wp_bind (wp_mono h λy S2 ⟨i,e,q⟩=>by subst e;exact va q)))
theorem nK {c:C (List D)}(h:Wp (c ρ S) λys S1=>Q (.tup ys) S1):Wp (rq c ρ S) Q:=wp_bind h
theorem sY {c:C (List D)}(h:Wp (c ρ S) λys S1=>∃bs,bools ys=some bs/\Q (.bl (bs.all id)) S1):Wp (sU c ρ S) Q:=wp_bind (wp_mono h λys S1 ⟨bs,e,q⟩=>by rw[e];exact q)
theorem pZ {n:Nat}{a:C D}{is:List Nat}{one:Bool}{t:C Bool}{e:List D->C (List D)}(hb:blank is (inner n ρ)=true)(h:Wp (a ρ S) λx S1=>∃j,x = .int j/\(e7 j&&decide (j.toNat<=sizeLine))=true/\Wp (bF (λ_=>true) is one t e (inner n ρ) (dZ 0 j.toNat) [] S1) QL):Wp (hV n (.range a) is one t e [] ρ S) QL:=cJ hb (wp_bind (wp_mono h λx S1 ⟨j,e,hg,h⟩=>by subst e;exact cJ hg (h)))
theorem v9 {a:C D}(h:Wp (a ρ S) λx S1=>∃b,kP S1 x=some b/\QB b S1):Wp (dj a ρ S) QB:=wp_bind (wp_mono h λx S1 ⟨b,e,q⟩=>by unfold truthOf;rw[e];exact q)
theorem xo {a:C D}(h:Wp (a ρ S) λx S1=>∃b,x = .bl b/\QB b S1):Wp (aq a ρ S) QB:=wp_bind (wp_mono h λx S1 ⟨b,e,q⟩=>by subst e;exact q)
theorem sV {a:C Bool}(h:Wp (a ρ S) λb S1=>QB (!b) S1):Wp (eK a ρ S) QB:=wp_bind h
theorem yG {a b:C Bool}(h:Wp (a ρ S) λt S1=>(t=true->Wp (b ρ S1) QB)/\(t=false->QB false S1)):Wp (eA a b ρ S) QB:=wp_bind (wp_mono h λt S1 ⟨q1,q2⟩=>by
 cases t with
 | true=>exact q1 rfl
 | false=>exact q2 rfl)
theorem BR {a b:C Bool}(h:Wp (a ρ S) λt S1=>(t=true->QB true S1)/\(t=false->Wp (b ρ S1) QB)):Wp (lh a b ρ S) QB:=wp_bind (wp_mono h λt S1 ⟨q1,q2⟩=>by
 cases t with
 | true=>exact q1 rfl
 | false=>exact q2 rfl)
theorem iZ (q:QB true S):Wp (always ρ S) QB:=q
theorem bH (q:K.nx ρ S):Wf (ah [] ρ S) K:=q
theorem aQ {c:CS}{cs:List CS}(h:Wf (c ρ S) { K with nx:=λρ S=>Wf (ah cs ρ S) K }):Wf (ah (c::cs) ρ S) K:=Ib h
theorem jC {e:C D}(h:Wp (e ρ S) λ_ S1=>K.nx ρ S1):Wf (aU e ρ S) K:=du h
theorem k8 {e:C D}(h:Wp (e ρ S) K.rt):Wf (retS e ρ S) K:=du h
theorem GF {c:C Bool}{a b:CS}(h:Wp (c ρ S) λt S1=>(t=true->Wf (a ρ S1) K)/\(t=false->Wf (b ρ S1) K)):Wf (bA c a b ρ S) K:=du (wp_mono h λt S1 ⟨q1,q2⟩=>by
 cases t with
 | true=>exact q1 rfl
 | false=>exact q2 rfl)
theorem gy {i:Nat}{e:C D}(h:Wp (e ρ S) λd S1=>K.nx (ρ.set i (some d)) S1):Wf (a5 i e ρ S) K:=du h
theorem rF {is:List Nat}{cs:List (C D)}(h:Wp (b8 cs ρ S) λds S1=>∃ρ',ic is ds ρ=some ρ'/\K.nx ρ' S1):Wf (kF is cs ρ S) K:=du (wp_mono h λds S1 ⟨ρ',e,q⟩=>by rw[e];exact q)
theorem xq {is:List Nat}{e:C D}(h:Wp (e ρ S) λd S1=>∃ds ρ',d = .tup ds/\ic is ds ρ=some ρ'/\K.nx ρ' S1):Wf (tupS is e ρ S) K:=du (wp_mono h λd S1 ⟨ds,ρ',ed,e,q⟩=>by subst ed;simp only[e];exact q)
theorem wg {pl:Nat->Nat->Bool}{o:C D}{f:Nat}{e:C D}(h:Wp (e ρ S) λv S1=>Wp (o ρ S1) λx S2=>Wp (iV pl x f v S2) λ_ S3=>K.nx ρ S3):Wf (eT pl o f e ρ S) K:=du (wp_mono h λ_ _ h=>du (wp_mono h λ_ _ h=>du h))
theorem rP {o i e:C D}(h:Wp (e ρ S) λv S1=>Wp (o ρ S1) λx S2=>Wp (i ρ S2) λk S3=>Wp (dF x k v S3) λ_ S4=>K.nx ρ S4):Wf (fJ o i e ρ S) K:=du (wp_mono h λ_ _ h=>du (wp_mono h λ_ _ h=>du (wp_mono h λ_ _ h=>du h)))
theorem qH {o i:C D}(h:Wp (o ρ S) λx S1=>Wp (i ρ S1) λk S2=>Wp (jV x k S2) λ_ S3=>K.nx ρ S3):Wf (ma o i ρ S) K:=du (wp_mono h λ_ _ h=>du (wp_mono h λ_ _ h=>du h))
theorem qG {a:C D}{is:List Nat}{one:Bool}{b:CS}(h:Wp (a ρ S) λx S1=>Wf (s9 is one b x ρ S1) K):Wf (fh (.dyn a) is one b ρ S) K:=du h
theorem l5 {a:C D}{is:List Nat}{one:Bool}{b:CS}(h:Wp (a ρ S) λx S1=>∃j,x = .int j/\e7 j=true/\Wf (forL is one b (dZ 0 j.toNat) ρ S1) K):Wf (fh (.range a) is one b ρ S) K:=du (wp_mono h λx S1 ⟨j,e,hg,h⟩=>by subst e;simp only[hg,if_pos];exact h)
theorem dv {a:D}{xs:List D}{k:Int}{v:D}(h:itemsOf S a=some xs)(hi:jk xs k=some v)(q:Q v S):Wp (dq a (.int k) S) Q:=by
 have hd:g9 S a=false:=by
  cases a with
  | ref n=>
   unfold g9 kvsOf;unfold itemsOf at h;cases ho:S[n]? with
   | none=>simp[ho] at h
   | some o=>cases o<;>simp[ho] at h<;>simp[ho]
  | _=>rfl
 refine ak ?_ q;unfold dq;rw[hd,if_neg (by decide),h];simp only[hi]
theorem ym {n:Nat}{af:List (D×D)}{k v:D}(h:S[n]?=some (.aG af)/\bX af k=true\/S[n]?=some (.dC af)/\aY k=true)(hv:bB af k=some v)(q:Q v S):Wp (dq (.ref n) k S) Q:=by
 refine ak ?_ q;rcases h with⟨h,hk⟩|⟨h,hk⟩
 .simp[dq,g9,kvsOf,h,kz,hk,hv]
 .simp[dq,g9,kvsOf,h,kz,hk,hv]
theorem ze {n c:Nat}{fs:List (Nat×D)}{f:Nat}{v:D}(h:S[n]?=some (.obj c fs))(hv:fs.lookup f=some v)(q:Q v S):Wp (nH (.ref n) f S) Q:=ak (by simp[nH,h,hv]) q
theorem bf {n:Nat}{xs:List D}(h:S[n]?=some (.lst xs)):itemsOf S (.ref n)=some xs:=by simp[itemsOf,h]
theorem Cv {n:Nat}{xs:List D}(h:S[n]?=some (.cw xs)):itemsOf S (.ref n)=some xs:=by simp[itemsOf,h]
noncomputable def Fr (W:Nat->Prop)(S S':ae):Prop:=S.length<=S'.length/\∀i,i<S.length->¬W i->S'[i]?=S[i]?
noncomputable def no:Nat->Prop:=λ_=>False
theorem Fr.refl (W:Nat->Prop)(S:ae):Fr W S S:=⟨Nat.le_refl _,λ_ _ _=>rfl⟩
theorem Fr.trans {W W':Nat->Prop}{S S' S'':ae}(h:Fr W S S')(h':Fr W' S' S'')(m:∀i,i<S.length->W' i->W i):Fr W S S'':=
 ⟨Nat.le_trans h.1 h'.1,λi hi hw=>by rw[h'.2 i (Nat.lt_of_lt_of_le hi h.1) λw=>hw (m i hi w),h.2 i hi hw]⟩
theorem Fr.mono {W W':Nat->Prop}{S S':ae}(h:Fr W S S')(m:∀i,i<S.length->W i->W' i):Fr W' S S':=⟨h.1,λi hi hw=>h.2 i hi λw=>hw (m i hi w)⟩
theorem Fr.set (W:Nat->Prop)(S:ae)(n:Nat)(o:O)(h:W n):Fr W S (S.set n o):=⟨by simp,λi hi hw=>by rw[List.getElem?_set_ne];intro e;subst e;exact hw h⟩
theorem Fr.app (W:Nat->Prop)(S:ae)(T:List O):Fr W S (S++T):=⟨by simp,λi hi hw=>List.getElem?_append_left hi⟩
theorem Fr.at {W:Nat->Prop}{S S':ae}(h:Fr W S S'){i:Nat}{o:O}(ho:S[i]?=some o)(hw:¬W i):S'[i]?=some o:=by rw[h.2 i (List.getElem?_eq_some_iff.mp ho).1 hw,ho]
theorem fi {S:ae}{i:Nat}{o:O}(ho:S[i]?=some o):i<S.length:=(List.getElem?_eq_some_iff.mp ho).1
theorem bt (S:ae)(o:O):(S++[o])[S.length]?=some o:=by simp
theorem dk {S:ae}{n:Nat}{o o':O}(h:S[n]?=some o):(S.set n o')[n]?=some o':=by rw[List.getElem?_set_self (fi h)]
variable {has:Nat->Nat->Bool}{call:Nat->Nat->List D->ae->R D}{m:Option Nat}{a:C D}
theorem sS (h:Wp (a ρ S) λx S1=>∃n xs,x = .ref n/\S1[n]?=some (.cw xs)/\Q (.int xs.length) S1):Wp (dQ has call m a ρ S) Q:=nT (wp_mono h λx S1 ⟨n,xs,e,h,q⟩=>by subst e;exact⟨by simp only[nE,h],xs.length,by simp only[ny,kvsOf,itemsOf,h,Option.map_some],q⟩)
end RF
section
namespace Q42
open RF PySem
local macro_rules
 | `(tactic| rfl')=>`(tactic| repeat (first
 | with_reducible apply aQ | with_reducible apply bH | with_reducible apply jC | with_reducible apply k8 | with_reducible apply GF | with_reducible apply gy | with_reducible apply rF | with_reducible apply xq | with_reducible apply wg | with_reducible apply rP | with_reducible apply qH | with_reducible apply qG | with_reducible apply l5
 | ((with_reducible apply wF);· rfl) | with_reducible apply FG | with_reducible apply xa | with_reducible apply rb | with_reducible apply zS | with_reducible apply vM | with_reducible apply zJ | with_reducible apply wp_not | with_reducible apply CP | with_reducible apply D6 | with_reducible apply Gr | with_reducible apply hU | with_reducible apply eC | ((with_reducible refine w5 ?_ ?_);· rfl) | ((with_reducible refine wY ?_ ?_);· rfl) | with_reducible apply sx | with_reducible apply wp_call
 | with_reducible apply nK | with_reducible apply sY | ((with_reducible apply pZ);· rfl) | with_reducible apply v9 | with_reducible apply xo | with_reducible apply sV | with_reducible apply yG | with_reducible apply BR | with_reducible apply iZ | with_reducible apply nL
 | ((with_reducible apply ak (r:=gw _ _ _ _));· rfl)))
theorem i5 {a b:Int}{S:ae}{Q:D->ae->Prop}(h:ik a b=true)(q:Q (.int (a*b)) S):Wp (gw .Mult (.int a) (.int b) S) Q:=ak (by show aB (ik a b) _=_;rw[h];rfl) q
theorem BB {a b:Int}{S:ae}{Q:D->ae->Prop}(h:0<b)(h2:b<2 ^ 250)(q:Q (.int (a / b)) S):Wp (gw .FloorDiv (.int a) (.int b) S) Q:=ak (by show aB (decide (0<b)&&decide (b<2 ^ 250)) _=_;rw[decide_eq_true h,decide_eq_true h2];rfl) q
theorem mX {a b:Int}{S:ae}{Q:D->ae->Prop}(h:0<b)(q:Q (.int (a%b)) S):Wp (gw .Mod (.int a) (.int b) S) Q:=ak (by show aB (decide (0<b)) _=_;rw[decide_eq_true h];rfl) q
theorem mul_r {a b:Int}(h:b.natAbs<2 ^ 64):ik a b=true:=by simp[ik,h]
theorem Nk {a b:Int}(h:a.natAbs<2 ^ 64):ik a b=true:=by simp[ik,h]
theorem Gv {a b:Int}(h:a.natAbs<2 ^ 250)(h':b.natAbs<2 ^ 250):ik a b=true:=by simp[ik,h,h']
theorem kS {xs:List D}{i:Int}(h1:0<=i)(h2:i<xs.length):∃x,jk xs i=some x/\x∈xs:=by
 have h3:i.toNat<xs.length:=by omega
 refine⟨xs[i.toNat],?_,List.getElem_mem _⟩;simp[jk,qP,h1,h2]
theorem Fo (n:Nat)(a b:Int)(S:ae):∃z,(ag P (n+1)).f 17 [.int a,.int b] S = .ok (.int z) S:=by
 suffices h:Wp ((ag P (n+1)).f 17 [.int a,.int b] S) λv S'=>(∃z,v = .int z)/\S'=S by obtain⟨v,S',e,⟨z,rfl⟩,rfl⟩:=vg h;exact⟨z,e⟩
 rw[xS];apply aH;unfold oY;rfl';refine i5 (mul_r (by decide)) ?_;rfl';refine i5 (mul_r (by decide)) ?_;rfl';refine i5 ?_ ?_
 .have h1:=Int.emod_nonneg (a*6364136223846793005+(b+1)*1442695040888963407) (b:=340282366920938463463374607431768211507) (by decide);have h2:=Int.emod_lt_of_pos (a*6364136223846793005+(b+1)*1442695040888963407) (b:=340282366920938463463374607431768211507) (by decide);exact Gv (by omega) (by omega)
 generalize ((a*6364136223846793005+(b+1)*1442695040888963407)%340282366920938463463374607431768211507)*((a*6364136223846793005+(b+1)*1442695040888963407)%340282366920938463463374607431768211507)=w;rfl';have h1:=Int.emod_nonneg w (b:=340282366920938463463374607431768211297) (by decide);have h2:=Int.emod_lt_of_pos w (b:=340282366920938463463374607431768211297) (by decide);generalize w%340282366920938463463374607431768211297=y at h1 h2;have h3:=Int.emod_nonneg y (b:=18446744073709551557) (by decide);have h4:=Int.emod_lt_of_pos y (b:=18446744073709551557) (by decide);have h5:0<=y / 18446744073709551557:=by omega
 have h6:y / 18446744073709551557<2 ^ 65:=by omega
 refine i5 (Nk ?_) ?_
 .show (y%18446744073709551557+1).natAbs<2 ^ 64;omega
 rfl';refine i5 (Gv ?_ ?_) ?_
 .show ((y%18446744073709551557+1)*(y / 18446744073709551557+1)).natAbs<2 ^ 250;rw[Int.natAbs_mul];have a1:(y%18446744073709551557+1).natAbs<=2 ^ 64:=by omega
  have a2:(y / 18446744073709551557+1).natAbs<=2 ^ 66:=by omega
  exact Nat.lt_of_le_of_lt (Nat.mul_le_mul a1 a2) (by decide)
 .show y.natAbs<2 ^ 250;omega
 rfl';exact⟨⟨_,rfl⟩,rfl⟩
noncomputable def cY (d:Nat)(S:ae):Prop:=∃a b,S[d]?=some (.lst [.int a,.int b])
theorem JG (n:Nat)(ns:List Int)(k:Int)(S:ae)(h:S[0]?=some (.cw (ns.map D.int)))(hk:0<=k)(hn:ns.length<=63):Wp ((ag P (n+1)).f 16 [.ref 0,.int k] S) λv S'=>(∃z,v = .int z)/\S'=S++[.lst []]:=by
 rw[AE];apply aH;unfold qA;rfl';have h':(S++[O.lst []])[0]?=some (.cw (ns.map D.int)):=(Fr.app no S [O.lst []]).at h (λh=>h);refine ak (a:=.bl (ns.map D.int).isEmpty) (S:=S++[.lst []]) ?_ ?_
 .simp only[a7,iQ,h',bt,eo]
 refine⟨_,rfl,λhc=>?_,λhc=>?_⟩
 .rfl';refine i5 (mul_r (by decide)) ?_;exact⟨⟨_,rfl⟩,rfl⟩
 .rfl';have hl:0<(ns.map D.int).length:=by
   cases ns with
   | nil=>simp at hc
   | cons x xs=>simp
  have pP:(0:Int)<((ns.map D.int).length:Int):=by omega
  have hb:((ns.map D.int).length:Int)<2 ^ 250:=by simp;omega
  refine sS ?_;rfl';refine⟨_,_,rfl,h',?_⟩;refine mX pP ?_;obtain⟨x,e,hm⟩:=kS (xs:=ns.map D.int) (i:=k%((ns.map D.int).length:Int)) (Int.emod_nonneg _ (by omega)) (Int.emod_lt_of_pos _ pP);obtain⟨z,hz,rfl⟩:=List.mem_map.mp hm;refine dv (Cv h') e ?_;rfl';refine sS ?_;rfl';refine⟨_,_,rfl,h',?_⟩;refine BB pP hb ?_;rfl';refine i5 (mul_r (by decide)) ?_;rfl';exact⟨⟨_,rfl⟩,rfl⟩
theorem yn {S:ae}{Q:Unit->ae->Prop}{n j:Nat}{xs:List D}{k:Int}{v:D}(h:S[n]?=some (.lst xs))(hi:qP xs.length k=some j)(q:Q () (S.set n (.lst (xs.set j v)))):Wp (dF (.ref n) (.int k) v S) Q:=ak (by simp only[dF,h,hi]) q
theorem IK (n d:Nat)(m:Int)(S:ae)(hd:cY d S)(h1:0<m)(h2:m<2 ^ 250):Wp ((ag P (n+2)).f 18 [.ref d,.int m] S) λv S'=>(∃z,v = .int z/\0<=z/\z<m)/\∃a b,S'=S.set d (.lst [.int a,.int b]):=by
 obtain⟨a,b,hd⟩:=hd;rw[zH];apply aH;unfold qF;rfl';refine dv (bf hd) rfl ?_;rfl';refine ak rfl ?_;refine⟨_,rfl,λ_=>?_,λ_=>?_⟩
 .rfl';refine dv (bf hd) rfl ?_;rfl';refine mX h1 ?_;rfl';refine dv (bf hd) rfl ?_;rfl';refine BB h1 h2 ?_;rfl';refine yn hd rfl ?_;rfl';exact⟨⟨_,rfl,Int.emod_nonneg _ (by omega),Int.emod_lt_of_pos _ h1⟩,_,_,rfl⟩
 .rfl';refine dv (bf hd) rfl ?_;rfl';refine yn hd rfl ?_;have jo:=dk (o':=.lst [.int a,.int (b+1)]) hd;rfl';refine dv (bf jo) rfl ?_;rfl';refine dv (bf jo) rfl ?_;rfl';obtain⟨z,e⟩:=Fo n a (b+1) (S.set d (.lst [.int a,.int (b+1)]));refine ak e ?_;rfl';refine mX h1 ?_;exact⟨⟨_,rfl,Int.emod_nonneg _ (by omega),Int.emod_lt_of_pos _ h1⟩,_,_,rfl⟩
theorem gP (lo:Int)(n:Nat):(dZ lo n).length=n:=by simp[dZ]
theorem ub {lo:Int}{n i:Nat}{x:D}(h:(dZ lo n)[i]?=some x):x = .int (lo+(i:Int)):=by
 unfold dZ at h;rw[List.getElem?_map] at h;cases hi:(List.range n)[i]? with
 | none=>simp[hi] at h
 | some k=>obtain⟨h1,h2⟩:=List.getElem?_eq_some_iff.mp hi;simp at h2;subst h2;rw[hi] at h;simpa using h.symm
theorem oq {n:Nat}{S T:ae}(h:S.all (i4 n)=true)(h':T.all (i4 n)=true):(S++T).all (i4 n)=true:=by rw[List.all_append,h,h'];rfl
theorem CZ (n:Nat)(ns:List Int)(hn:ns.length<=63)(S:ae)(h:S[0]?=some (.cw (ns.map D.int)))(hl:S.length=1)(ho:S.all (i4 10)=true):Wp ((ag P (n+2)).f 19 [.ref 0,.int 3] S) λv S'=>∃g ds,v = .ref g/\S'[g]?=some (.lst ds)/\S'[0]?=some (.cw (ns.map D.int))/\S'.length<=10/\S'.all (i4 10)=true/\∀x∈ds,∃d,x = .ref d/\d≠g/\cY d S':=by
 rw[wV];apply aH;unfold nM;apply aQ;apply k8;apply wp_bind;rfl';refine sS ?_;rfl';refine⟨_,_,rfl,h,?_⟩;rfl';refine ak rfl ?_;rfl';refine ak rfl ?_;refine⟨_,rfl,?_,?_⟩
 .simp only[List.length_map,e7,Bool.and_eq_true,decide_eq_true_eq,sizeLine];split<;>split<;>omega
 generalize hj:(if (if ((ns.map D.int).length:Int)<3 then ((ns.map D.int).length:Int) else 3) > 1 then (if ((ns.map D.int).length:Int)<3 then ((ns.map D.int).length:Int) else 3) else 1)=j;have j3:j.toNat<=4:=by rw[<-hj];split<;>split<;>omega
 refine yT (Inv:=λi ys S'=>i<=4/\ys.length<=i/\(∀x∈ys,∃d,x = .ref d/\cY d S')/\Fr no S S'/\S'.length=1+2*i/\S'.all (i4 10)=true) ⟨by omega,Nat.le_refl _,λx hx=>by simp at hx,Fr.refl _ _,by omega,ho⟩ (λ_ _ _ _ _=>rfl) (λi x ys S1 hx hI=>?_) (λys S1 hI=>?_)
 .have hi:i<4:=by have:=(List.getElem?_eq_some_iff.mp hx).1;rw[gP] at this;omega
  rw[ub hx];obtain⟨_,h0,h1,h2,h3,h4⟩:=hI;refine⟨_,rfl,?_⟩;apply iZ;rw[if_pos rfl];refine cJ (decide_eq_true (show ys.length<sizeLine by unfold sizeLine;omega)) (wp_bind ?_);rfl';refine wp_mono (JG n ns _ S1 (h2.at h λh=>h) (by omega) hn) λv S2 ⟨⟨z,ez⟩,hf⟩=>?_;subst ez;subst hf;rfl';have lH:Fr no S1 ((S1++[O.lst []])++[O.lst [.int z,.int 0]]):=(Fr.app no _ _).trans (Fr.app no _ _) λ_ _ h=>h;refine⟨by omega,by rw[List.length_append];simp;omega,λy hy=>?_,h2.trans lH λ_ _ h=>h,by simp;omega,oq (oq h4 rfl) rfl⟩;rcases List.mem_append.mp hy with hy | hy
  .obtain⟨d,e,a,b,hd⟩:=h1 y hy;exact⟨d,e,a,b,lH.at hd λh=>h⟩
  .rw[List.mem_singleton.mp hy];exact⟨_,rfl,_,_,bt _ _⟩
 .obtain⟨_,_,h1,h2,h3,h4⟩:=hI;rw[gP] at h3;have hf:Fr no S1 (S1++[O.lst ys]):=Fr.app _ _ _;refine⟨_,ys,rfl,bt _ _,(h2.trans hf λ_ _ h=>h).at h λh=>h,by simp;omega,oq h4 ?_,λx hx=>?_⟩
  .simp only[List.all_cons,List.all_nil,Bool.and_true];show ys.all (kg 10)=true;rw[List.all_eq_true];intro x hx;obtain⟨d,rfl,a,b,hd⟩:=h1 x hx;have:=fi hd;exact decide_eq_true (by omega)
  .obtain⟨d,e,a,b,hd⟩:=h1 x hx;exact⟨d,e,Nat.ne_of_lt (fi hd),a,b,hf.at hd λh=>h⟩
theorem cY.lt {d:Nat}{S:ae}(h:cY d S):d<S.length:=by obtain⟨a,b,h⟩:=h;exact fi h
theorem cY.fr {d:Nat}{S S':ae}{W:Nat->Prop}(h:cY d S)(hf:Fr W S S')(hw:¬W d):cY d S':=by obtain⟨a,b,h⟩:=h;exact⟨a,b,hf.at h hw⟩
theorem bW {α:Type}{r:R α}{a:α}{S:ae}(h:Wp r λx S'=>x=a/\S'=S):r = .ok a S:=by obtain⟨x,S',e,rfl,rfl⟩:=vg h;exact e
theorem kr {chk:ae->Bool}{i:Nat}{t:C Bool}{e:C D}{ρ:RF.Env}{S:ae}{f:D->Bool}{h:D->D}(hc:chk S=true):∀(xs acc:List D),(∀x∈xs,t (ρ.set i (some x)) S = .ok (f x) S/\e (ρ.set i (some x)) S = .ok (h x) S)->acc.length+xs.length<sizeLine ->
 bF chk [i] true t (bL e) ρ xs acc S = .ok (acc++(xs.filter f).map h) S
 | [],acc,_,_=>by unfold bF;rw[if_pos hc];simp
 | x::xs,acc,hx,hl=>by
  obtain⟨h1,h2⟩:=hx x (List.mem_cons_self ..);rw[List.length_cons] at hl;unfold bF;rw[if_pos hc];show (t (ρ.set i (some x)) S).bind _=_;rw[h1,R.bY]
  by_cases q:f x=true
  .rw[if_pos q];have:bL e acc (ρ.set i (some x)) S = .ok (acc++[h x]) S:=by unfold bL aB;rw[if_pos (decide_eq_true (by omega)),h2,R.bY]
   rw[this,R.bY,kr hc xs _ (λy hy=>hx y (List.mem_cons_of_mem _ hy)) (by rw[List.length_append,List.length_singleton];omega),List.filter_cons,if_pos q];simp
  .rw[if_neg q,kr hc xs _ (λy hy=>hx y (List.mem_cons_of_mem _ hy)) (by omega),List.filter_cons,if_neg q]
theorem gx (n:Nat)(i:Int)(S:ae):(ag P (n+1)).f 0 [.int i] S = .ok (.bl true) S:=by rw[AW];rfl
theorem g6 (n:Nat)(i lo hi:Int)(S:ae)(h1:lo<=i)(h2:i<=hi):(ag P (n+2)).f 1 [.int i,.int lo,.int hi] S = .ok (.bl true) S:=by rw[ye];apply bW;apply aH;unfold oR;rfl';refine ak (gx _ _ _) ?_;refine⟨_,rfl,λ_=>?_,λh=>by simp at h⟩;rfl';refine ak rfl ?_;refine⟨_,rfl,λ_=>?_,λh=>by simp at h;omega⟩;rfl';refine ak rfl ?_;refine⟨?_,rfl⟩;simp[h2]
theorem qE (n:Nat)(i:Int)(S:ae)(h:0<=i):(ag P (n+2)).f 4 [.int i] S = .ok (.bl true) S:=by rw[CT];apply bW;apply aH;unfold uv;rfl';refine ak (gx _ _ _) ?_;refine⟨_,rfl,λ_=>?_,λh=>by simp at h⟩;rfl';refine ak rfl ?_;refine⟨?_,rfl⟩;simp[h]
theorem xW (n:Nat)(i:Int)(S:ae)(h1:0<=i)(h2:i<=999):(ag P (n+3)).f 2 [.int i] S = .ok (.bl true) S:=by rw[Ad];apply bW;apply aH;unfold rN;rfl';refine ak (g6 _ _ _ _ _ h1 h2) ?_;exact⟨rfl,rfl⟩
theorem gf (n:Nat)(i lo hi:Int)(S:ae)(h1:lo<=i)(h2:i<=hi):(ag P (n+3)).f 6 [.int i,.int lo,.int hi] S = .ok .aj S:=by rw[uL];apply bW;apply aH;unfold my;rfl';refine ak (g6 _ _ _ _ _ h1 h2) ?_;refine⟨_,rfl,λh=>by simp at h,λ_=>?_⟩;exact⟨rfl,rfl⟩
theorem uU (n:Nat)(i:Int)(S:ae)(h1:0<=i)(h2:i<=999):(ag P (n+4)).f 7 [.int i] S = .ok .aj S:=by rw[vE];apply bW;apply aH;unfold mT;rfl';refine ak (gf _ _ _ _ _ h1 h2) ?_;exact⟨rfl,rfl⟩
theorem c6 (n:Nat)(i:Int)(S:ae)(h:0<=i):(ag P (n+3)).f 8 [.int i] S = .ok .aj S:=by rw[xY];apply bW;apply aH;unfold oQ;rfl';refine ak (qE _ _ _ h) ?_;exact⟨_,rfl,λh=>by simp at h,λ_=>⟨rfl,rfl⟩⟩
noncomputable def G1:List Str:=["a","b","c","x9","long"]
noncomputable def parts:List D:=G1.map D.str
theorem zV (n:Nat)(x:D)(S:ae)(h:x∈parts):(ag P (n+1)).f 10 [x] S = .ok (.bl true) S:=by
 have h:x = .str "a"\/x = .str "b"\/x = .str "c"\/x = .str "x9"\/x = .str "long":=by simpa[parts,G1] using h
 rw[CC];rcases h with rfl|rfl|rfl|rfl|rfl<;>kernel_rfl
noncomputable def aN (x:D):Prop:=∃ps:List D,x = .tup ps/\1<=ps.length/\ps.length<=5/\∀p∈ps,p∈parts
theorem rS (l:List D):bools (l.map λ_=>D.bl true)=some (l.map λ_=>true):=by
 induction l with
 | nil=>rfl
 | cons x xs ih=>simp[bools,ih]
theorem jw (n:Nat)(x:D)(S:ae)(h:aN x):(ag P (n+2)).f 11 [x] S = .ok (.bl true) S:=by
 obtain⟨ps,rfl,h1,h2,h3⟩:=h;rw[ud];apply bW;apply aH;unfold uz;rfl';refine ak rfl ?_;refine⟨_,rfl,λh=>by simp at h,λ_=>?_⟩;rfl';refine nT ?_;rfl';refine⟨rfl,_,rfl,?_⟩;refine ak rfl ?_;refine⟨_,rfl,λ_=>?_,λh=>by simp at h;omega⟩;rfl';refine ak rfl ?_;refine⟨_,rfl,?_⟩;refine⟨λh=>by simp at h;omega,λ_=>?_⟩;rfl';refine ak (a:=ps.map λ_=>D.bl true) (S:=S) ?_ ⟨_,rS _,?_,rfl⟩
 .show aB true ((bF (λ_=>true) [0] true always (bL (ao ((ag P (n+1)).f 10) [aa 0])) [none,some (.tup ps)] ps [] S))=_;rw[kr (f:=λ_=>true) (h:=λ_=>.bl true) rfl ps [] (λx hx=>⟨rfl,?_⟩) (by unfold sizeLine;simp;omega)]
  .have:(ps.filter λ_=>true)=ps:=List.filter_eq_self.mpr λ_ _=>rfl;rw[this];rfl
  .show (ag P (n+1)).f 10 [x] S=_;exact zV n x S (h3 x hx)
 .simp
theorem gW (n:Nat)(x:D)(S:ae)(h:aN x):(ag P (n+3)).f 13 [x] S = .ok .aj S:=by rw[x6];apply bW;apply aH;unfold pG;rfl';refine ak (jw _ _ _ h) ?_;exact⟨_,rfl,λh=>by simp at h,λ_=>⟨rfl,rfl⟩⟩
theorem rE (n:Nat)(x:D)(w:Str)(S:ae)(h:aN x)(hw:w = "ask"\/w = "no"):(ag P (n+3)).f 15 [.tup [.str w,x]] S = .ok (.bl true) S:=by
 rw[oV];apply bW;apply aH;unfold kI;rfl';refine ak rfl ?_;refine⟨_,rfl,λh=>by simp at h,λ_=>?_⟩;rfl';refine nT ?_;rfl';refine⟨rfl,_,rfl,?_⟩;refine ak rfl ?_;refine⟨_,rfl,λh=>by simp at h,λ_=>?_⟩;rfl';refine ak rfl ?_;rfl';refine ak (jw _ _ _ h) ?_;refine⟨_,rfl,λh=>by simp at h,λ_=>?_⟩;rfl';refine ak rfl ?_;rfl';rcases hw with rfl|rfl
 all_goals
  refine ak (a:=.bl false) (S:=S) (by kernel_rfl) ?_;refine⟨_,rfl,λh=>by simp at h,λ_=>?_⟩;rfl';refine ak rfl ?_;rfl';refine ak (a:=.bl true) (S:=S) (by kernel_rfl) ?_;refine⟨_,rfl,λ_=>?_,λh=>by simp at h⟩;rfl';refine nT ?_;rfl';refine⟨rfl,_,rfl,?_⟩;refine ak rfl ?_;exact⟨rfl,rfl⟩
end Q42
end
namespace RF
open PySem
noncomputable def cf:Nat->D->Bool
 | 0,_=>false
 | n+1,.tup xs=>xs.all (cf n)
 | _+1,.aj=>true
 | _+1,.int _=>true
 | _+1,.str _=>true
 | _+1,_=>false
theorem Bp:∀(n:Nat) (x:D),cf n x=true->cf (n+1) x=true
 | 0,x,h=>by cases h
 | n+1,.tup xs,h=>by simp only[cf,List.all_eq_true] at h ⊢;exact λy hy=>Bp n y (h y hy)
 | n+1,.aj,_=>rfl
 | n+1,.int _,_=>rfl
 | n+1,.str _,_=>rfl
 | n+1,.bl _,h=>by cases h
 | n+1,.ref _,h=>by cases h
theorem lY {n m:Nat}{x:D}(h:cf n x=true)(hm:n<=m):cf m x=true:=by
 induction hm with
 | refl=>exact h
 | step _ ih=>exact Bp _ _ ih
theorem IU (xs ys:List D):decide (D.tup xs = .tup ys)=decide (xs=ys):=by
 by_cases h:xs=ys
 .rw[h];simp
 .rw[decide_eq_false h,decide_eq_false λe=>h (by cases e;rfl)]
theorem sI {S:ae}{n:Nat}(ih:∀a b,cf n a=true->cf n b=true->cH S n a b=some (decide (a=b))):∀xs ys:List D,(∀x∈xs,cf n x=true)->(∀y∈ys,cf n y=true)->∃b,jh (cH S n) xs ys=some b/\(b&&xs.length==ys.length)=decide (xs=ys)
 | [],[],_,_=>⟨true,rfl,rfl⟩
 | [],_::_,_,_=>⟨true,rfl,rfl⟩
 | _::_,[],_,_=>⟨true,rfl,rfl⟩
 | x::xs,y::ys,hx,hy=>by
  obtain⟨b,e1,e2⟩:=sI ih xs ys (λz h=>hx z (List.mem_cons_of_mem _ h)) λz h=>hy z (List.mem_cons_of_mem _ h);refine⟨decide (x=y)&&b,?_,?_⟩
  .simp only[jh,ih x y (hx x List.mem_cons_self) (hy y List.mem_cons_self),e1]
  .by_cases h:x=y
   .subst h;have:(x::xs=x::ys)=(xs=ys):=by simp
    simp only[this,<-e2,List.length_cons,decide_true,Bool.true_and]
    congr 1
    simp
   .simp[h]
theorem qU (S:ae):∀(n:Nat) (a b:D),cf n a=true->cf n b=true->cH S n a b=some (decide (a=b))
 | 0,_,_,h,_=>by cases h
 | n+1,a,b,ha,hb=>by
  have ih:=qU S n;cases a with
  | bl _=>cases ha
  | ref _=>cases ha
  | tup xs=>
   cases b with
   | bl _=>cases hb
   | ref _=>cases hb
   | tup ys=>simp only[cf,List.all_eq_true] at ha hb;obtain⟨c,e1,e2⟩:=sI ih xs ys ha hb;have:cH S (n+1) (.tup xs) (.tup ys)=(jh (cH S n) xs ys).map λb=>b&&xs.length==ys.length:=rfl;rw[this,e1,Option.map_some,e2,IU]
   | aj=>rfl
   | int _=>rfl
   | str _=>rfl
  | aj=>cases b<;>first | rfl | cases hb
  | int i=>
   cases b with
   | int j=>
    have:cH S (n+1) (.int i) (.int j)=some (i==j):=rfl;rw[this]
    by_cases h:i=j
    .simp[h]
    .have:¬D.int i = .int j:=λe=>h (by cases e;rfl);simp[h]
   | bl _=>cases hb
   | ref _=>cases hb
   | aj=>rfl
   | tup _=>rfl
   | str _=>rfl
  | str i=>
   cases b with
   | str j=>
    have:cH S (n+1) (.str i) (.str j)=some (i==j):=rfl;rw[this]
    by_cases h:i=j
    .simp[h]
    .simp[h]
   | bl _=>cases hb
   | ref _=>cases hb
   | aj=>rfl
   | tup _=>rfl
   | int _=>rfl
theorem ni:∀(n:Nat) (x:D),cf n x=true->bU x=true
 | 0,_,h=>by cases h
 | n+1,.tup xs,h=>by
  simp only[cf,List.all_eq_true] at h;have:∀ys:List D,(∀y∈ys,cf n y=true)->bU.many ys=true:=by
   intro ys
   induction ys with
   | nil=>intro _;simp[bU.many]
   | cons y ys ih=>intro hy;simp only[bU.many,ni n y (hy y List.mem_cons_self),ih λz hz=>hy z (List.mem_cons_of_mem _ hz),Bool.and_self]
  simp only[bU,this xs h]
 | n+1,.aj,_=>by simp[bU]
 | n+1,.int _,_=>by simp[bU]
 | n+1,.str _,_=>by simp[bU]
 | n+1,.bl _,h=>by cases h
 | n+1,.ref _,h=>by cases h
theorem vJ {n:Nat}:∀xs:List D,(∀x∈xs,cf n x=true)->bU.many xs=true
 | [],_=>by simp[bU.many]
 | x::xs,h=>by simp only[bU.many,ni n x (h x List.mem_cons_self),vJ xs λz hz=>h z (List.mem_cons_of_mem _ hz),Bool.and_self]
theorem yh {S:ae}{n:Nat}{x:D}(hx:cf n x=true):∀ys:List D,(∀y∈ys,cf n y=true)->kL (λz=>cH S n z x) ys=some (decide (x∈ys))
 | [],_=>by simp[kL]
 | y::ys,h=>by
  simp only[kL,qU S n y x (h y List.mem_cons_self) hx,yh hx ys λz hz=>h z (List.mem_cons_of_mem _ hz),List.mem_cons]
  by_cases e:x=y
  .simp[e]
  .have e':¬y=x:=λq=>e q.symm;simp[e,e']
variable {ρ:Env}{S:ae}{Q:D->ae->Prop}{QB:Bool->ae->Prop}{QL:List D->ae->Prop}{K:En}{a b x y:D}{xs ys:List D}{i j n:Nat}
theorem yA (ha:cf 8 a=true)(hb:cf 8 b=true):iQ S depth a b=some (decide (a=b)):=by
 have h:=qU S 8 a b ha hb;cases a with
 | ref _=>cases ha
 | _=>exact h
theorem AJ (ha:cf 8 a=true)(hb:cf 8 b=true)(q:Q (.bl (decide (a=b))) S):Wp (a7 .Eq a b S) Q:=ak (by simp only[a7,yA ha hb,eo]) q
theorem wm (ha:cf 8 a=true)(hb:cf 8 b=true)(q:Q (.bl (!decide (a=b))) S):Wp (a7 .NotEq a b S) Q:=ak (by simp only[a7,yA ha hb,eo,Option.map_some]) q
theorem IA (hi:S[i]?=some (.lst xs))(hj:S[j]?=some (.lst ys))(hx:∀x∈xs,cf 7 x=true)(hy:∀y∈ys,cf 7 y=true):iQ S depth (.ref i) (.ref j)=some (decide (xs=ys)):=by
 obtain⟨c,e1,e2⟩:=sI (qU S 7) xs ys hx hy;have:cH S 8 (.ref i) (.ref j)=some (decide (xs=ys)):=by
  unfold cH;simp only[hi,hj]
  by_cases h:xs.length=ys.length
  .rw[if_pos h,e1,<-e2,h];simp
  .rw[if_neg h,decide_eq_false λe=>h (by rw[e])]
 simp only[iQ,hi];exact this
theorem Pa (hi:S[i]?=some (.lst xs))(hj:S[j]?=some (.lst ys))(hx:∀x∈xs,cf 7 x=true)(hy:∀y∈ys,cf 7 y=true)(q:Q (.bl (!decide (xs=ys))) S):Wp (a7 .NotEq (.ref i) (.ref j) S) Q:=ak (by simp only[a7,IA hi hj hx hy,eo,Option.map_some]) q
theorem yt (hi:S[i]?=some (.lst xs))(hj:S[j]?=some (.lst [])):iQ S depth (.ref i) (.ref j)=some (decide (xs=[])):=by
 have:cH S 8 (.ref i) (.ref j)=some (decide (xs=[])):=by
  unfold cH;simp only[hi,hj];cases xs with
  | nil=>rfl
  | cons _ _=>simp
 simp only[iQ,hi];exact this
theorem eq_0 (hi:S[i]?=some (.lst xs))(hj:S[j]?=some (.lst []))(q:Q (.bl (decide (xs=[]))) S):Wp (a7 .Eq (.ref i) (.ref j) S) Q:=ak (by simp only[a7,yt hi hj,eo]) q
theorem ne_0 (hi:S[i]?=some (.lst xs))(hj:S[j]?=some (.lst []))(q:Q (.bl (!decide (xs=[]))) S):Wp (a7 .NotEq (.ref i) (.ref j) S) Q:=ak (by simp only[a7,yt hi hj,eo,Option.map_some]) q
theorem B3 (h:S[n]?=some (.lst ys))(hx:cf 4 x=true)(hy:∀y∈ys,cf 4 y=true):inD S x (.ref n)=some (decide (x∈ys)):=by simp only[inD,g9,kvsOf,h,itemsOf,ni 4 x hx,vJ ys hy,Bool.and_self,if_true,yh hx ys hy];simp
theorem La (h:S[n]?=some (.lst ys))(hx:cf 4 x=true)(hy:∀y∈ys,cf 4 y=true)(q:Q (.bl (decide (x∈ys))) S):Wp (a7 .In x (.ref n) S) Q:=ak (by simp only[a7,B3 h hx hy,eo]) q
theorem lK (h:S[n]?=some (.lst ys))(hx:cf 4 x=true)(hy:∀y∈ys,cf 4 y=true)(q:Q (.bl (!decide (x∈ys))) S):Wp (a7 .NotIn x (.ref n) S) Q:=ak (by simp only[a7,B3 h hx hy,eo,Option.map_some]) q
variable {af:List (D×D)}{k v:D}
theorem xu (h:S[n]?=some (.aG af))(hk:bX af k=true)(q:Q (.bl (bB af k).isSome) S):Wp (a7 .In k (.ref n) S) Q:=ak (by simp only[a7,inD,g9,kvsOf,kz,h,hk,Option.isSome_some,if_pos,Option.map_some,eo]) q
theorem qX (h:S[n]?=some (.aG af))(hk:bX af k=true)(q:Q (.bl (!(bB af k).isSome)) S):Wp (a7 .NotIn k (.ref n) S) Q:=ak (by simp only[a7,inD,g9,kvsOf,kz,h,hk,Option.isSome_some,if_pos,Option.map_some,eo]) q
theorem oG (h:S[n]?=some (.aG af))(hk:bX af k=true)(hv:bB af k=some v)(q:Q v S):Wp (dq (.ref n) k S) Q:=ym (Or.inl ⟨h,hk⟩) hv q
theorem Gj (h:S[n]?=some (.dC af))(hk:aY k=true)(hv:bB af k=some v)(q:Q v S):Wp (dq (.ref n) k S) Q:=ym (Or.inr ⟨h,hk⟩) hv q
theorem uZ {i:Int}(hi:jk xs i=some v)(q:Q v S):Wp (dq (.tup xs) (.int i) S) Q:=dv (rfl:itemsOf S (.tup xs)=some xs) hi q
theorem vb {i:Int}(h:S[n]?=some (.lst xs))(hi:jk xs i=some v)(q:Q v S):Wp (dq (.ref n) (.int i) S) Q:=dv (bf h) hi q
variable {QU:Unit->ae->Prop}
theorem Al (h:S[n]?=some (.aG af))(hk:bX af k=true)(hv:(bB af k).isSome=true)(q:QU () (S.set n (.aG (iP af k)))):Wp (jV (.ref n) k S) QU:=ak (by simp only[jV,h,hk,hv];rfl) q
theorem rQ (h:S[n]?=some (.aG af))(hp:eE k=false)(hk:bX af k=true)(hl:af.length<sizeLine)(q:QU () (S.set n (.aG (putD af k v)))):Wp (dF (.ref n) k v S) QU:=by refine ak ?_ q;unfold dF;simp only[h,hp,hk,hl,decide_true,Bool.and_true];rfl
theorem NQ {j:Nat}{i:Int}(h:S[n]?=some (.lst xs))(hi:qP xs.length i=some j)(q:QU () (S.set n (.lst (xs.set j v)))):Wp (dF (.ref n) (.int i) v S) QU:=ak (by simp only[dF,h,hi]) q
noncomputable def ip:List (D×D)->O
 | []=>.aG []
 | kv::af=>.jr (kv::af)
theorem M9 (h:S[n]?=some (ip af))(hk:eE k=true)(hl:af.length<sizeLine)(q:QU () (S.set n (ip (putD af k v)))):Wp (dF (.ref n) k v S) QU:=by
 refine ak ?_ q;cases af with
 | nil=>have h:S[n]?=some (.aG []):=h;simp only[dF,h,hk,if_true];rfl
 | cons p af=>
  have h:S[n]?=some (.jr (p::af)):=h;simp only[dF,h,hk,hl,decide_true,Bool.and_true];have:∃p' cF,putD (p::af) k v=p'::cF:=by
   unfold putD;split
   .exact⟨_,_,rfl⟩
   .exact⟨_,_,rfl⟩
  obtain⟨p',cF,e⟩:=this;rw[e];rfl
noncomputable def LO (S:ae)(x:D)(k:Nat->List D->Prop):Prop:=∃n xs,x = .ref n/\S[n]?=some (.lst xs)/\k n xs
theorem lo {k:Nat->List D->Prop}(h:S[n]?=some (.lst xs))(q:k n xs):LO S (.ref n) k:=⟨n,xs,rfl,h,q⟩
noncomputable def DO (S:ae)(x:D)(k:Nat->List (D×D)->Prop):Prop:=∃n af,x = .ref n/\S[n]?=some (.aG af)/\k n af
theorem Oq {k:Nat->List (D×D)->Prop}(h:S[n]?=some (.aG af))(q:k n af):DO S (.ref n) k:=⟨n,af,rfl,h,q⟩
noncomputable def NO (S:ae)(x:D)(k:Nat->List Int->Prop):Prop:=∃(n:Nat) (is:List Int),x = .ref n/\S[n]?=some (.lst (is.map D.int))/\k n is
theorem Ot {k:Nat->List Int->Prop}{is:List Int}(h:S[n]?=some (.lst (is.map D.int)))(q:k n is):NO S (.ref n) k:=⟨n,is,rfl,h,q⟩
noncomputable def PO (S:ae)(x:D)(k:Nat->List (D×D)->Prop):Prop:=∃n af,x = .ref n/\S[n]?=some (ip af)/\k n af
theorem Oo {k:Nat->List (D×D)->Prop}(h:S[n]?=some (ip af))(q:k n af):PO S (.ref n) k:=⟨n,af,rfl,h,q⟩
theorem C5 {m:Option Nat}{has:Nat->Nat->Bool}{call:Nat->Nat->List D->ae->R D}{c:C D}{cs:List (C D)}(h:Wp (c ρ S) λx S1=>PO S1 x λn af=>Wp (b8 cs ρ S1) λvs S2=>∃k,vs=[k]/\S2[n]?=some (ip af)/\eE k=true/\Q ((bB af k).getD .aj) S2):Wp (aF has call m (some .get) c cs ρ S) Q:=by
 refine gJ (wp_mono h λx S1 ⟨n,af,e,h1,h2⟩=>⟨n,ip af,e,h1,by cases af<;>rfl,wp_mono h2 λvs S2 ⟨k,e2,h3,h4,q⟩=>?_⟩)
 subst e e2;refine ak ?_ q;cases af with
 | nil=>have h3:S2[n]?=some (.aG []):=h3;simp only[fE,rG,sL,h3,h4];rfl
 | cons p af=>have h3:S2[n]?=some (.jr (p::af)):=h3;simp only[fE,rG,sL,h3,h4];rfl
theorem jL {pl:Nat->Nat->Bool}{c f:Nat}{fs:List (Nat×D)}(h:S[n]?=some (.obj c fs))(hg:(decide (fs.length<900)&&pl c f)=true)(q:QU () (S.set n (.obj c (eg f v fs)))):Wp (iV pl (.ref n) f v S) QU:=ak (by simp only[iV,h,hg];rfl) q
noncomputable def TB (x:D)(k:Bool->Prop):Prop:=∃b,x = .bl b/\k b
theorem tb {b:Bool}{k:Bool->Prop}(h:k b):TB (.bl b) k:=⟨b,rfl,h⟩
noncomputable def lA (t:Bool)(A B:Prop):Prop:=(t=true->A)/\(t=false->B)
theorem l8 {A B:Prop}(h:A):lA true A B:=⟨λ_=>h,λe=>by cases e⟩
theorem ji {A B:Prop}(h:B):lA false A B:=⟨(λe=>by cases e),λ_=>h⟩
theorem FF {t:Bool}{A B:Prop}(h:lA t B A):lA (!t) A B:=⟨λe=>h.2 (by simpa using e),λe=>h.1 (by simpa using e)⟩
theorem eJ {P A B:Prop}[Decidable P](h1:P->A)(h2:¬P->B):lA (decide P) A B:=⟨λe=>h1 (of_decide_eq_true e),λe=>h2 (of_decide_eq_false e)⟩
theorem iF {P A B:Prop}[Decidable P](h:P)(h1:A):lA (decide P) A B:=⟨λ_=>h1,λe=>absurd h (of_decide_eq_false e)⟩
theorem iN {P A B:Prop}[Decidable P](h:¬P)(h1:B):lA (decide P) A B:=⟨λe=>absurd (of_decide_eq_true e) h,λ_=>h1⟩
variable {f g:C D}{c d:C Bool}
theorem Cu (h:Wp (f ρ S) λx S1=>TB x λt=>lA t (Wp (g ρ S1) Q) (Q (.bl false) S1)):Wp (j4 f g ρ S) Q:=CP h
theorem GA (h:Wp (f ρ S) λx S1=>TB x λt=>lA t (Q (.bl true) S1) (Wp (g ρ S1) Q)):Wp (G9 f g ρ S) Q:=wp_bind (wp_mono h λx S1 ⟨t,e,q1,q2⟩=>by
 subst e;cases t with
 | true=>exact q1 rfl
 | false=>exact q2 rfl)
theorem GV (h:Wp (c ρ S) λt S1=>lA t (Wp (f ρ S1) Q) (Wp (g ρ S1) Q)):Wp (rR c f g ρ S) Q:=Gr h
noncomputable def TR (S:ae)(x:D)(k:Bool->Prop):Prop:=∃b,kP S x=some b/\k b
theorem JT {b:Bool}{k:Bool->Prop}(h:k b):TR S (.bl b) k:=⟨b,rfl,h⟩
theorem MR {k:Bool->Prop}(hn:S[n]?=some (.lst xs))(h:k (!decide (xs=[]))):TR S (.ref n) k:=⟨_,by cases xs<;>simp[kP,hn],h⟩
theorem vA (h:Wp (f ρ S) λx S1=>TR S1 x λb=>QB b S1):Wp (dj f ρ S) QB:=v9 h
theorem qj (h:Wp (f ρ S) λx S1=>TB x λb=>QB b S1):Wp (aq f ρ S) QB:=xo h
theorem sW (h:Wp (c ρ S) λt S1=>lA t (Wp (d ρ S1) QB) (QB false S1)):Wp (eA c d ρ S) QB:=yG h
theorem B4 (h:Wp (c ρ S) λt S1=>lA t (QB true S1) (Wp (d ρ S1) QB)):Wp (lh c d ρ S) QB:=BR h
theorem f6 {r s:CS}(h:Wp (c ρ S) λt S1=>lA t (Wf (r ρ S1) K) (Wf (s ρ S1) K)):Wf (bA c r s ρ S) K:=GF h
noncomputable def MO (S:ae)(has:Nat->Nat->Bool)(m:Nat)(x:D)(k:Nat->Prop):Prop:=∃n c fs,x = .ref n/\S[n]?=some (.obj c fs)/\((fs.lookup m).isNone&&has c m)=true/\k c
theorem mo {has:Nat->Nat->Bool}{m c:Nat}{fs:List (Nat×D)}{k:Nat->Prop}(h:S[n]?=some (.obj c fs))(hg:((fs.lookup m).isNone&&has c m)=true)(q:k c):MO S has m (.ref n) k:=⟨n,c,fs,rfl,h,hg,q⟩
theorem yr {has:Nat->Nat->Bool}{call:Nat->Nat->List D->ae->R D}{m:Nat}{bm:Option Mt}{cs:List (C D)}(h:Wp (f ρ S) λx S1=>MO S1 has m x λc=>Wp (b8 cs ρ S1) λxs S2=>Wp (call c m (x::xs) S2) Q):Wp (aF has call (some m) bm f cs ρ S) Q:=
 HM (wp_mono h λx S1 ⟨n,c,fs,e,h1,h2,h3⟩=>⟨n,c,fs,e,h1,h2,h3⟩)
theorem CA {has:Nat->Nat->Bool}{call:Nat->Nat->List D->ae->R D}{m:Option Nat}(h:Wp (f ρ S) λx S1=>LO S1 x λn xs=>Wp (g ρ S1) λv S2=>∃ys,S2[n]?=some (.lst ys)/\ys.length<sizeLine/\Q .aj (S2.set n (.lst (ys++[v])))):Wp (aF has call m (some .append) f [g] ρ S) Q:=by refine gJ (wp_mono h λx S1 ⟨n,xs,e,h1,h2⟩=>⟨n,_,e,h1,rfl,eC (wp_mono h2 λv S2 ⟨ys,h3,h4,q⟩=>hU ?_)⟩);subst e;refine ak ?_ q;simp only[fE,rG,n6,h3,h4];rfl
theorem B2 {has:Nat->Nat->Bool}{call:Nat->Nat->List D->ae->R D}{m:Option Nat}(h:Wp (f ρ S) λx S1=>DO S1 x λn af=>Wp (g ρ S1) λk S2=>S2[n]?=some (.aG af)/\aY k=true/\bX af k=true/\∃v,bB af k=some v/\Q v (S2.set n (.aG (iP af k)))):Wp (aF has call m (some .pop) f [g] ρ S) Q:=by refine gJ (wp_mono h λx S1 ⟨n,af,e,h1,h2⟩=>⟨n,_,e,h1,rfl,eC (wp_mono h2 λk S2 ⟨h3,h4,h5,v,h6,q⟩=>hU ?_)⟩);subst e;refine ak ?_ q;simp only[fE,rG,zO,h3,h4,h5,h6];rfl
theorem yX {has:Nat->Nat->Bool}{call:Nat->Nat->List D->ae->R D}{m:Option Nat}{e:C D}(h:Wp (f ρ S) λx S1=>DO S1 x λn af=>Wp (g ρ S1) λk S2=>Wp (e ρ S2) λd S3=>S3[n]?=some (.aG af)/\aY k=true/\bX af k=true/\Q ((bB af k).getD d) S3):Wp (aF has call m (some .qx) f [g,e] ρ S) Q:=by refine gJ (wp_mono h λx S1 ⟨n,af,e,h1,h2⟩=>⟨n,_,e,h1,rfl,eC (wp_mono h2 λk S2 h2=>eC (wp_mono h2 λd S3 ⟨h3,h4,h5,q⟩=>hU ?_))⟩);subst e;refine ak ?_ q;simp only[fE,rG,vd,h3,h4,h5];rfl
theorem CI {has:Nat->Nat->Bool}{call:Nat->Nat->List D->ae->R D}{m:Option Nat}(h:Wp (f ρ S) λx S1=>LO S1 x λn xs=>Wp (g ρ S1) λv S2=>∃j ys,v = .ref j/\S2[n]?=some (.lst xs)/\S2[j]?=some (.lst ys)/\xs.length+ys.length<=sizeLine/\Q .aj (S2.set n (.lst (xs++ys)))):Wp (aF has call m (some .extend) f [g] ρ S) Q:=by refine gJ (wp_mono h λx S1 ⟨n,xs,e,h1,h2⟩=>⟨n,_,e,h1,rfl,eC (wp_mono h2 λv S2 ⟨j,ys,e2,h3,h4,h5,q⟩=>hU ?_)⟩);subst e e2;refine ak ?_ q;simp only[fE,rG,iL,h3,h4,big,h5,decide_true];rfl
theorem ints_map:∀is:List Int,iR (is.map .int)=some is
 | []=>rfl
 | i::is=>by simp only[List.map_cons,iR,ints_map is,Option.map_some]
theorem C8 {has:Nat->Nat->Bool}{call:Nat->Nat->List D->ae->R D}{m:Option Nat}(h:Wp (f ρ S) λx S1=>NO S1 x λn is=>Wp (g ρ S1) λv S2=>∃i,v = .int i/\S2[n]?=some (.lst (is.map D.int))/\i∈is/\Q .aj (S2.set n (.lst ((is.erase i).map .int)))):Wp (aF has call m (some .remove) f [g] ρ S) Q:=by refine gJ (wp_mono h λx S1 ⟨n,is,e,h1,h2⟩=>⟨n,_,e,h1,rfl,eC (wp_mono h2 λv S2 ⟨i,e2,h3,h4,q⟩=>hU ?_)⟩);subst e e2;refine ak ?_ q;simp only[fE,rG,oj,h3,ints_map,h4,decide_true];rfl
theorem BJ {has:Nat->Nat->Bool}{call:Nat->Nat->List D->ae->R D}{m:Option Nat}(h:Wp (f ρ S) λx S1=>LO S1 x λn xs=>Wp (g ρ S1) λu S2=>Wp (c' ρ S2) λv S3=>∃i,u = .int i/\S3[n]?=some (.lst xs)/\0<=i/\i.toNat<=xs.length/\xs.length<1000/\Q .aj (S3.set n (.lst (xs.take i.toNat++v::xs.drop i.toNat)))):Wp (aF has call m (some .insert) f [g,c'] ρ S) Q:=by refine gJ (wp_mono h λx S1 ⟨n,xs,e,h1,h2⟩=>⟨n,_,e,h1,rfl,eC (wp_mono h2 λu S2 h2=>eC (wp_mono h2 λv S3 ⟨i,e2,h3,h4,h5,h6,q⟩=>hU ?_))⟩);subst e e2;refine ak ?_ q;simp only[fE,rG,om,h3,h4,h5,h6,decide_true,Bool.and_self];rfl
noncomputable def LE (S:ae)(x:D)(k:Nat->Prop):Prop:=nE S x=true/\∃n:Nat,ny S x=some n/\k n
theorem LA {k:Nat->Prop}(h:S[n]?=some (.lst xs))(q:k xs.length):LE S (.ref n) k:=⟨by simp only[nE,h],xs.length,by simp only[ny,kvsOf,itemsOf,h,Option.map_some],q⟩
theorem Kx {k:Nat->Prop}(h:S[n]?=some (.aG af))(q:k af.length):LE S (.ref n) k:=⟨by simp only[nE,h],af.length,by simp only[ny,kvsOf,h],q⟩
theorem J7 {k:Nat->Prop}(q:k xs.length):LE S (.tup xs) k:=⟨rfl,xs.length,rfl,q⟩
theorem Bu {has:Nat->Nat->Bool}{call:Nat->Nat->List D->ae->R D}{m:Option Nat}(h:Wp (f ρ S) λx S1=>LE S1 x λn=>Q (.int n) S1):Wp (dQ has call m f ρ S) Q:=nT (wp_mono h λ_ _ ⟨h1,n,h2,q⟩=>⟨h1,n,h2,q⟩)
theorem KZ (q:Q (.bl (decide (a = .aj))) S):Wp (a7 .Is a .aj S) Q:=q
theorem G3 (q:Q (.bl (!decide (a = .aj))) S):Wp (a7 .IsNot a .aj S) Q:=q
theorem ON {kd:Kd}{b:Bool}(h:nk S kd a=some b)(q:Q (.bl b) S):Wp (eo (nk S kd a) S) Q:=by rw[h];exact q
theorem GQ {kd:Kd}(h:nk S kd a=some true)(q:Q (.bl true) S):Wp (eo (nk S kd a) S) Q:=by rw[h];exact q
theorem G2 {kd:Kd}(h:nk S kd a=some false)(q:Q (.bl false) S):Wp (eo (nk S kd a) S) Q:=by rw[h];exact q
theorem LY {i j:Int}(q:Q (.bl (decide (i<j))) S):Wp (a7 .Lt (.int i) (.int j) S) Q:=q
theorem JX {i j:Int}(q:Q (.bl (decide (i<=j))) S):Wp (a7 .LtE (.int i) (.int j) S) Q:=q
theorem LL {i j:Int}(q:Q (.bl (decide (j<i))) S):Wp (a7 .Gt (.int i) (.int j) S) Q:=q
theorem LD {i j:Int}(q:Q (.bl (decide (j<=i))) S):Wp (a7 .GtE (.int i) (.int j) S) Q:=q
theorem Ir (i j:Int):decide (D.int i = .int j)=decide (i=j):=by by_cases h:i=j<;>simp[h]
theorem Js (i j:Str):decide (D.str i = .str j)=decide (i=j):=by by_cases h:i=j<;>simp[h]
theorem Ln {i j:Int}(q:Q (.bl (decide (i=j))) S):Wp (a7 .Eq (.int i) (.int j) S) Q:=AJ rfl rfl (by rw[Ir];exact q)
theorem p7 {i j:Str}(q:Q (.bl (decide (i=j))) S):Wp (a7 .Eq (.str i) (.str j) S) Q:=AJ rfl rfl (by rw[Js];exact q)
theorem Bq (h:S[n]?=some (.lst xs))(q:Q (.ref S.length) (S++[.lst xs])):Wp (cx .list [.ref n] S) Q:=ak (by simp only[cx,kvsOf,h,bf h,fz]) q
theorem Dh (q:Q (.ref S.length) (S++[.lst xs])):Wp (cx .list [.tup xs] S) Q:=q
theorem cG {T:ae}{o:O}(h:S[i]?=some o):(S++T)[i]?=some o:=by rw[List.getElem?_append_left (fi h)];exact h
theorem gH {o o':O}(h:S[i]?=some o)(hn:j≠i):(S.set j o')[i]?=some o:=by rw[List.getElem?_set_ne hn];exact h
theorem dn {W:Nat->Prop}{S1:ae}{o:O}(h:Fr W S S1)(hw:n<S.length->W n):Fr W S (S1.set n o):=⟨by rw[List.length_set];exact h.1,λi hi hn=>by rw[List.getElem?_set_ne (λe=>hn (by subst e;exact hw hi))];exact h.2 i hi hn⟩
theorem dm {W:Nat->Prop}{S1 T:ae}(h:Fr W S S1):Fr W S (S1++T):=⟨by rw[List.length_append];exact Nat.le_trans h.1 (Nat.le_add_right _ _),λi hi hn=>by rw[List.getElem?_append_left (Nat.lt_of_lt_of_le hi h.1)];exact h.2 i hi hn⟩
end RF
section
namespace Q42
open RF PySem
local macro_rules
 | `(tactic| ac_rfl)=>`(tactic| first
  | with_reducible assumption | with_reducible exact bt _ _ | ((with_reducible apply dk);ac_rfl) | ((with_reducible apply cG);ac_rfl) | ((with_reducible apply gH);(· ac_rfl);(· (try simp only[List.length_set,List.length_append,List.length_cons,List.length_nil]);omega)))
local macro_rules
 | `(tactic| rfl')=>`(tactic| repeat (first
 | with_reducible apply aQ | with_reducible apply bH | with_reducible apply jC | with_reducible apply k8 | with_reducible apply f6 | with_reducible apply gy | with_reducible apply rF | with_reducible apply xq | with_reducible apply wg | with_reducible apply rP | with_reducible apply qH | with_reducible apply qG | with_reducible apply l5
 | ((with_reducible apply wF);· rfl) | with_reducible apply FG | with_reducible apply xa | with_reducible apply rb | with_reducible apply zS | with_reducible apply vM | with_reducible apply zJ | with_reducible apply wq_not | with_reducible apply Cu | with_reducible apply GA | with_reducible apply wq_chain | with_reducible apply GV | with_reducible apply hU | with_reducible apply eC | ((with_reducible refine w5 ?_ ?_);· rfl) | ((with_reducible refine wY ?_ ?_);· rfl) | with_reducible apply sx | with_reducible apply wp_call
 | with_reducible apply nK | with_reducible apply sY | ((with_reducible apply pZ);· rfl) | with_reducible apply vA | with_reducible apply qj | with_reducible apply sV | with_reducible apply sW | with_reducible apply B4 | with_reducible apply iZ | with_reducible apply nL
 | with_reducible apply CA | with_reducible apply B2 | with_reducible apply yX | with_reducible apply CI | with_reducible apply C8 | with_reducible apply BJ | with_reducible apply C5 | with_reducible apply yr | with_reducible apply Bu
 | with_reducible apply tb | with_reducible apply JT | with_reducible apply l8 | with_reducible apply ji | with_reducible apply FF | with_reducible apply J7
 | with_reducible apply Dh | ((with_reducible apply Bq);(· ac_rfl)) | with_reducible apply KZ | with_reducible apply G3 | with_reducible apply LY | with_reducible apply JX | with_reducible apply LL | with_reducible apply LD | with_reducible apply Ln | with_reducible apply ne_i
 | ((with_reducible apply ze);(· ac_rfl);(· rfl)) | ((with_reducible apply mo);(· ac_rfl);(· rfl)) | ((with_reducible apply lo);(· ac_rfl)) | ((with_reducible apply Oq);(· ac_rfl)) | ((with_reducible apply Ot);(· ac_rfl)) | ((with_reducible apply Oo);(· ac_rfl)) | ((with_reducible apply LA);(· ac_rfl)) | ((with_reducible apply Kx);(· ac_rfl)) | ((with_reducible apply uZ);· rfl) | ((with_reducible apply GQ);· rfl) | ((with_reducible apply G2);· rfl) | ((with_reducible apply jL);(· ac_rfl);(· rfl)) | ((with_reducible apply MR);(· ac_rfl))
 | ((with_reducible apply ak (r:=gw _ _ _ _));· rfl)))
noncomputable abbrev Row:=D×Int×Int
noncomputable def kv (r:Row):D×D:=(r.1,.tup [.int r.2.1,.int r.2.2])
noncomputable def line (r:Row):D:=.tup [r.1,.int r.2.1,.int r.2.2]
noncomputable def bp (rows:List Row)(x:D):List Row:=rows.filter λr=>decide (r.1≠x)
noncomputable def c8 (rows:List Row):Prop:=(rows.map (·.1)).Nodup/\∀r∈rows,aN r.1
theorem lR {p:D}(h:p∈parts):∃s,p = .str s:=by obtain⟨x,_,rfl⟩:=List.mem_map.mp h;exact⟨_,rfl⟩
theorem c9 {x:D}(h:aN x):aY x=true:=by obtain⟨ps,rfl,_,_,h⟩:=h;simp only[aY,List.all_eq_true];intro p hp;obtain⟨s,rfl⟩:=lR (h p hp);rfl
theorem DV {x:D}(h:aN x):cf 2 x=true:=by obtain⟨ps,rfl,_,_,h⟩:=h;simp only[cf,List.all_eq_true];intro p hp;obtain⟨s,rfl⟩:=lR (h p hp);rfl
theorem km {x:D}(h:aN x):eE x=false:=by
 obtain⟨ps,rfl,_,_,h⟩:=h
 match ps,h with
 | [],_=>rfl
 | [_],_=>rfl
 | [a,b],h=>obtain⟨s,rfl⟩:=lR (h b (by simp));rfl
 | _::b::_::_,_=>cases b<;>rfl
theorem jT {af:List (D×D)}{x:D}(h:∀p∈af,aY p.1=true)(hx:aY x=true):bX af x=true:=by
 have:af.all (λkv=>aY kv.1)=true:=by rw[List.all_eq_true];exact h
 simp[bX,hx,this]
theorem eZ {rows:List Row}{x:D}(h:∀r∈rows,aN r.1)(hx:aN x):bX (rows.map kv) x=true:=jT (λp hp=>by obtain⟨r,hr,rfl⟩:=List.mem_map.mp hp;exact c9 (h r hr)) (c9 hx)
theorem oo {α:Type}(f:α->D×D)(l:List α)(x:D):bB (l.map f) x=(l.find? λr=>decide ((f r).1=x)).map λr=>(f r).2:=by unfold bB;rw[List.find?_map,Option.map_map];rfl
theorem fQ (rows:List Row)(x:D):bB (rows.map kv) x=(rows.find? λr=>decide (r.1=x)).map λr=>.tup [.int r.2.1,.int r.2.2]:=oo kv rows x
theorem gO (rows:List Row)(x:D):iP (rows.map kv) x=(bp rows x).map kv:=by unfold iP bp;rw[List.filter_map];rfl
theorem iI {rows:List Row}(h:(rows.map (·.1)).Nodup){r:Row}(hr:r∈rows):(rows.find? λs=>decide (s.1=r.1))=some r:=by
 induction rows with
 | nil=>simp at hr
 | cons s rows ih=>
  simp only[List.map_cons,List.nodup_cons] at h;rcases List.mem_cons.mp hr with rfl | hr
  .simp
  .have:s.1≠r.1:=λe=>h.1 (e ▸ List.mem_map.mpr ⟨r,hr,rfl⟩);rw[List.find?_cons,decide_eq_false this];exact ih h.2 hr
theorem kT (rows:List Row)(x:D):∀r∈bp rows x,r.1≠x:=λr hr=>by simpa using(List.mem_filter.mp hr).2
theorem d6 (rows:List Row)(x:D):(bp rows x).Sublist rows:=List.filter_sublist
theorem ui {rows:List Row}{x:D}(h:∀r∈rows,r.1≠x):bp rows x=rows:=by unfold bp;rw[List.filter_eq_self];intro r hr;simpa using h r hr
theorem j6 {rows Hd:List Row}(h:c8 rows)(hs:Hd.Sublist rows):c8 Hd:=⟨(hs.map _).nodup h.1,λr hr=>h.2 r (hs.subset hr)⟩
theorem xb {rows:List Row}{r:Row}(h:c8 rows)(hn:∀s∈rows,s.1≠r.1)(hr:aN r.1):c8 (rows++[r]):=by
 refine⟨?_,λs hs=>?_⟩
 .rw[List.map_append,List.nodup_append];refine⟨h.1,by simp,λa ha b hb=>?_⟩;obtain⟨s,hs,rfl⟩:=List.mem_map.mp ha;have:b=r.1:=by simpa using hb
  rw[this];exact hn s hs
 .rcases List.mem_append.mp hs with hs | hs
  .exact h.2 s hs
  .rw[List.mem_singleton.mp hs];exact hr
theorem sF {af:List (D×D)}{k v:D}(hn:∀p∈af,p.1≠k):putD af k v=af++[(k,v)]:=by unfold putD;rw[if_neg];simp only[List.any_eq_true,not_exists,not_and];intro s hs;rw[decide_eq_false (hn s hs)];decide
theorem vF {rows:List Row}{r:Row}(hn:∀s∈rows,s.1≠r.1):putD (rows.map kv) r.1 (.tup [.int r.2.1,.int r.2.2])=(rows++[r]).map kv:=by
 rw[sF]
 .simp[kv]
 .intro p hp;obtain⟨s,hs,rfl⟩:=List.mem_map.mp hp;exact hn s hs
theorem Bc (n:Nat)(i:Int)(S:ae)(h1:0<=i)(h2:i<=7):(ag P (n+3)).f 3 [.int i] S = .ok (.bl true) S:=by rw[BG];apply bW;apply aH;unfold tJ;rfl';refine ak (g6 _ _ _ _ _ h1 h2) ?_;exact⟨rfl,rfl⟩
theorem uf:∀(l σ:List Int),l.Nodup->(∀x∈l,x∉σ)->(l.foldl (λσ k=>if σ.any (· == k) then σ else σ++[k]) σ).length=σ.length+l.length
 | [],σ,_,_=>rfl
 | x::l,σ,hn,hx=>by
  rw[List.nodup_cons] at hn;have:(σ.any (· == x))=false:=by rw[List.any_eq_false];intro y hy;have:=hx x List.mem_cons_self;simp;exact λe=>this (e ▸ hy)
  rw[List.foldl_cons,this,if_neg (by decide),uf l (σ++[x]) hn.2 λy hy h=>?_]
  .simp;omega
  .rcases List.mem_append.mp h with h | h
   .exact hx y (List.mem_cons_of_mem _ hy) h
   .rw[List.mem_singleton.mp h] at hy;exact hn.1 hy
theorem CQ {l:List Int}(h:l.Nodup):unlike l=l.length:=by unfold unlike;rw[uf l [] h (by simp)];simp
noncomputable def gb (l:List Int):Prop:=l.Nodup/\l.length<=8/\∀i∈l,0<=i/\i<=7
theorem mz (n s:Nat)(l:List Int)(S:ae)(h:S[s]?=some (.lst (l.map .int)))(hl:gb l):(ag P (n+5)).f 9 [.ref s] S = .ok .aj S:=by
 have h1:(ag P (n+4)).f 5 [.ref s] S = .ok (.bl true) S:=by
  rw[zW];apply bW;apply aH;unfold qD;rfl';refine ON (b:=true) (by simp only[nk,h];rfl) ?_;rfl';refine ak (a:=(l.map D.int).map λ_=>D.bl true) (S:=S) ?_ ⟨_,rS _,?_⟩
  .show aB true (iS [0] true always (bL (ao ((ag P (n+3)).f 3) [aa 0])) [none,some (.ref s)] [] (.ref s) S)=_;unfold iS;simp only[h];have hc:e9 (.ref s) (l.map D.int) S=true:=decide_eq_true (bf h);rw[kr (f:=λ_=>true) (h:=λ_=>.bl true) hc (l.map D.int) [] (λx hx=>⟨rfl,?_⟩) (by unfold sizeLine;simp;have:=hl.2.1;omega)]
   .have:((l.map D.int).filter λ_=>true)=l.map D.int:=List.filter_eq_self.mpr λ_ _=>rfl;rw[this];rfl
   .obtain⟨i,hi,rfl⟩:=List.mem_map.mp hx;show (ag P (n+3)).f 3 [.int i] S=_;exact Bc _ _ _ (hl.2.2 i hi).1 (hl.2.2 i hi).2
  have ha:(List.all (List.map (λ_=>true) (l.map D.int)) id)=true:=by simp
  rw[ha];rfl';refine ak (r:=oM _ _ _) (a:=.int l.length) (S:=S) ?_ ?_
  .show lg (.ref s) S=_;simp only[lg,h,ints_map,CQ hl.1];have:decide (l.length<=1000)=true:=decide_eq_true (by have:=hl.2.1;omega);rw[this];rfl
  rfl';exact⟨by simp,rfl⟩
 rw[vW];apply bW;apply aH;unfold m9;rfl';refine ak h1 ?_;rfl';exact⟨rfl,rfl⟩
noncomputable def ju (x:D):Prop:=aN x\/x = .tup []
theorem x9 (n:Nat)(x:D)(S:ae)(h:ju x):(ag P (n+4)).f 14 [x] S = .ok .aj S:=by
 have h1:(ag P (n+3)).f 12 [x] S = .ok (.bl true) S:=by
  rw[sE];apply bW;apply aH;unfold kR;rfl';rcases h with h | rfl
  .refine ak (jw _ _ _ h) ?_;rfl';exact⟨rfl,rfl⟩
  .refine ak (a:=.bl false) (S:=S) ?_ ?_
   .rw[ud];kernel_rfl
   rfl';exact⟨rfl,rfl⟩
 rw[qq];apply bW;apply aH;unfold jW;rfl';refine ak h1 ?_;rfl';exact⟨rfl,rfl⟩
theorem yK {x:D}(h:ju x):aY x=true:=by
 rcases h with h | rfl
 .exact c9 h
 .rfl
theorem Fx {x:D}(h:ju x):eE x=false:=by
 rcases h with h | rfl
 .exact km h
 .rfl
theorem mf {chk:ae->Bool}{i:Nat}{t:C Bool}{e:C D}{ρ:RF.Env}{S:ae}{f:D->Bool}{h:D->D}(hc:chk S=true):∀(xs acc:List D),(∀x∈xs,t (ρ.set i (some x)) S = .ok (f x) S/\(f x=true->e (ρ.set i (some x)) S = .ok (h x) S))->acc.length+xs.length<sizeLine ->
 bF chk [i] true t (bL e) ρ xs acc S = .ok (acc++(xs.filter f).map h) S
 | [],acc,_,_=>by unfold bF;rw[if_pos hc];simp
 | x::xs,acc,hx,hl=>by
  obtain⟨h1,h2⟩:=hx x (List.mem_cons_self ..);rw[List.length_cons] at hl;unfold bF;rw[if_pos hc];show (t (ρ.set i (some x)) S).bind _=_;rw[h1,R.bY]
  by_cases q:f x=true
  .rw[if_pos q];have:bL e acc (ρ.set i (some x)) S = .ok (acc++[h x]) S:=by unfold bL aB;rw[if_pos (decide_eq_true (by omega)),h2 q,R.bY]
   rw[this,R.bY,mf hc xs _ (λy hy=>hx y (List.mem_cons_of_mem _ hy)) (by rw[List.length_append,List.length_singleton];omega),List.filter_cons,if_pos q];simp
  .rw[if_neg q,mf hc xs _ (λy hy=>hx y (List.mem_cons_of_mem _ hy)) (by omega),List.filter_cons,if_neg q]
noncomputable def CL (S:ae)(ρ:RF.Env)(t:C Bool)(e:C D)(x:D)(k:List D->Prop):Prop:=∃n xs f g,x = .ref n/\S[n]?=some (.lst xs)/\xs.length<sizeLine/\(∀y∈xs,t (some y::ρ) S = .ok (f y) S/\(f y=true->e (some y::ρ) S = .ok (g y) S))/\k ((xs.filter f).map g)
theorem cl {S:ae}{ρ:RF.Env}{t:C Bool}{e:C D}{n:Nat}{xs:List D}{k:List D->Prop}(h:S[n]?=some (.lst xs))(hl:xs.length<sizeLine)(f:D->Bool)(g:D->D)(he:∀y∈xs,t (some y::ρ) S = .ok (f y) S/\(f y=true->e (some y::ρ) S = .ok (g y) S))(q:k ((xs.filter f).map g)):CL S ρ t e (.ref n) k:=⟨n,xs,f,g,rfl,h,hl,he,q⟩
theorem Fp {ρ:RF.Env}{S:ae}{c:C D}{t:C Bool}{e:C D}{Q:List D->ae->Prop}(h:Wp (c ρ S) λx S1=>CL S1 ρ t e x λys=>Q ys S1):Wp (hV 1 (.dyn c) [0] true t (bL e) [] ρ S) Q:=by refine cJ (by simp[blank,inner]) (wp_bind (wp_mono h λx S1 ⟨n,xs,f,g,e1,h1,hl,he,q⟩=>?_));subst e1;unfold iS;simp only[h1];refine(ak (mf (f:=f) (h:=g) (decide_eq_true (bf h1)) xs [] he (by simpa using hl)) ?_);simpa using q
theorem lX {ρ:RF.Env}{S:ae}{c:C D}{t:C Bool}{e:C D}{Q:D->ae->Prop}(h:Wp (c ρ S) λx S1=>CL S1 ρ t e x λys=>Q (.ref S1.length) (S1++[.lst ys])):Wp (fG 1 (.dyn c) [0] true t e ρ S) Q:=wp_bind (Fp h)
noncomputable def CD (S:ae)(ρ:RF.Env)(t:C Bool)(e:C D)(x:D)(k:List D->Prop):Prop:=∃n af f g,x = .ref n/\S[n]?=some (.aG af)/\af.length<sizeLine/\(∀p∈af,aY p.1=true)/\(∀p∈af,t (some p.1::ρ) (S.set n (.dC af)) = .ok (f p.1) (S.set n (.dC af))/\(f p.1=true->e (some p.1::ρ) (S.set n (.dC af)) = .ok (g p.1) (S.set n (.dC af))))/\k (((af.map (·.1)).filter f).map g)
theorem cd {S:ae}{ρ:RF.Env}{t:C Bool}{e:C D}{n:Nat}{af:List (D×D)}{k:List D->Prop}(h:S[n]?=some (.aG af))(hl:af.length<sizeLine)(hk:∀p∈af,aY p.1=true)(f:D->Bool)(g:D->D)(he:∀p∈af,t (some p.1::ρ) (S.set n (.dC af)) = .ok (f p.1) (S.set n (.dC af))/\(f p.1=true->e (some p.1::ρ) (S.set n (.dC af)) = .ok (g p.1) (S.set n (.dC af))))(q:k (((af.map (·.1)).filter f).map g)):CD S ρ t e (.ref n) k:=⟨n,af,f,g,rfl,h,hl,hk,he,q⟩
theorem Ek {S:ae}{n:Nat}{o o':O}(h:S[n]?=some o):(S.set n o').set n o=S:=by rw[List.set_set];obtain⟨h1,h2⟩:=List.getElem?_eq_some_iff.mp h;rw[<-h2];simp
theorem set_same {S:ae}{n:Nat}{o:O}(h:S[n]?=some o):S=S.set n o:=by obtain⟨h1,h2⟩:=List.getElem?_eq_some_iff.mp h;rw[<-h2];simp
theorem v5 {ρ:RF.Env}{S:ae}{c:C D}{t:C Bool}{e:C D}{Q:D->ae->Prop}(h:Wp (c ρ S) λx S1=>CD S1 ρ t e x λys=>Q (.ref S1.length) (S1++[.lst ys])):Wp (fG 1 (.dyn c) [0] true t e ρ S) Q:=by
 refine wp_bind (cJ (by simp[blank,inner]) (wp_bind (wp_mono h λx S1 ⟨n,af,f,g,e1,h1,hl,hk,he,q⟩=>?_)));subst e1;unfold iS;simp only[h1];refine cJ (List.all_eq_true.mpr hk) (wp_bind ((ak (mf (f:=f) (h:=g) rfl (af.map (·.1)) [] (λy hy=>?_) (by simpa using hl)) ?_)))
 .obtain⟨p,hp,rfl⟩:=List.mem_map.mp hy;exact he p hp
 .simp only[dk h1,Ek h1];show Q _ _;simpa using q
noncomputable def KS (k:Nat)(room:Int)(rows:List Row)(S:ae):Prop:=S[k]?=some (.obj 0 [(28,.int room),(20,.ref (k+1))])/\S[k+1]?=some (.aG (rows.map kv))
theorem zN (n k:Nat)(room:Int)(S:ae)(hk:k=S.length)(h1:0<=room)(h2:room<=9):(ag P (n+4)).m 0 0 [.ref k,.int room] (S++[.obj 0 []]) = .ok .aj (S++[.obj 0 [(28,.int room),(20,.ref (k+1))],.aG []]):=by subst hk;rw[xn];apply bW;apply aH;unfold nv;rfl';refine ak (gf n _ _ _ _ h1 h2) ?_;rfl';simp[eg]
noncomputable def iK (room:Int)(rows:List Row)(x:D)(v u now:Int):List Row:=
 if (((if u > now then bp rows x++[(x,v,u)] else bp rows x).length:Nat):Int) > room then (if u > now then bp rows x++[(x,v,u)] else bp rows x).drop 1 else (if u > now then bp rows x++[(x,v,u)] else bp rows x)
theorem Ll {n k:Nat}{room:Int}{rows:List Row}{x:D}{v u now:Int}{S:ae}(h:KS k room rows S)(hr:c8 rows)(hl:(rows.length:Int)<=room)(hroom:room<=9)(hx:aN x)(v1:0<=v)(v2:v<=999)(u1:0<=u)(w1:0<=now):
 Wp ((ag P (n+5)).m 0 26 [.ref k,x,.int v,.int u,.int now] S) λr S'=>r = .aj/\∃T,S'=S.set (k+1) (.aG ((iK room rows x v u now).map kv))++T:=by
 obtain⟨h1,h2⟩:=h;have zA:=fi h2;have cN:k≠k+1:=by omega
 generalize hR:(λ(r:D) (S':ae)=>r = .aj/\∃T,S'=S.set (k+1) (.aG ((iK room rows x v u now).map kv))++T)=R;have hd:c8 (bp rows x):=j6 hr (d6 _ _);have hdl:((bp rows x).length:Int)<=room:=by have:=(d6 rows x).length_le;omega
 have hb:∀(rs:List Row) (S2:ae),rs=(if u > now then bp rows x++[(x,v,u)] else bp rows x)->c8 rs->S2=S.set (k+1) (.aG (rs.map kv))->Wf (ah [(bA (aq (aC .Gt (dQ T.aS (ag P (n+4)).m (some 1) (aE (aa 0) 20)) (aE (aa 0) 28))) (ah [(ma (aE (aa 0) 20) (bh (ao (cx .list) [(aE (aa 0) 20)]) (cE (.int 0))))]) (ah []))]
  [some (.ref k),some x,some (.int v),some (.int u),some (.int now)] S2) { nx:=λ_ S'=>R .aj S',rt:=R }:=by
  intro rs S2 ers DI e2;have hp:iK room rows x v u now=if ((rs.length:Nat):Int) > room then rs.drop 1 else rs:=by rw[ers];rfl
  have k1:S2[k]?=some (.obj 0 [(28,.int room),(20,.ref (k+1))]):=by rw[e2];ac_rfl
  have k2:S2[k+1]?=some (.aG (rs.map kv)):=by rw[e2];ac_rfl
  rfl';refine eJ (λhc=>?_) (λhc=>?_)
  .have hc:((rs.length:Nat):Int) > room:=by simpa using hc
   cases rs with
   | nil=>simp at hc;omega
   | cons r rs=>
    rfl';have fS:∀p∈(r::rs).map kv,aY p.1=true:=λp hp=>by obtain⟨r,hr,rfl⟩:=List.mem_map.mp hp;exact c9 (DI.2 r hr)
    refine ak (a:=.ref S2.length) (S:=S2++[.lst (((r::rs).map kv).map λp:D×D=>p.1)]) ?_ ?_
    .have:kvsOf S2 (.ref (k+1))=some ((r::rs).map kv):=by simp only[kvsOf,k2]
     simp only[cx,this,List.all_eq_true.mpr fS];rfl
    rfl';refine vb (bt _ _) (v:=r.1) (by simp[jk,qP,kv]) ?_;have gT:bp (r::rs) r.1=rs:=by have hn:=DI.1;simp only[List.map_cons,List.nodup_cons] at hn;have:bp rs r.1=rs:=ui λs hs e=>hn.1 (e ▸ List.mem_map.mpr ⟨s,hs,rfl⟩);unfold bp at this ⊢;rw[List.filter_cons,if_neg (by simp)];exact this
    refine Al (cG k2) (eZ DI.2 (DI.2 r List.mem_cons_self)) (by rw[fQ,iI DI.1 List.mem_cons_self];rfl) ?_;rw[gO,gT];rfl';rw[<-hR];refine⟨rfl,[.lst (((r::rs).map kv).map λp:D×D=>p.1)],?_⟩;rw[hp,if_pos hc,List.set_append_left _ _ (by rw[e2];simp;exact zA),e2,List.set_set];rfl
  .have hc:¬((rs.length:Nat):Int) > room:=by simpa using hc
   rfl';rw[<-hR,hp,if_neg hc];exact⟨rfl,[],by simp[e2]⟩
 have ha:∀(S1:ae),S1=S.set (k+1) (.aG ((bp rows x).map kv))->Wf (ah [bA (aq (aC .Gt (aa 3) (aa 4))) (ah [(fJ (aE (aa 0) 20) (aa 1) (ba [(aa 2),(aa 3)]))]) (ah []),(bA (aq (aC .Gt (dQ T.aS (ag P (n+4)).m (some 1) (aE (aa 0) 20)) (aE (aa 0) 28))) (ah [(ma (aE (aa 0) 20) (bh (ao (cx .list) [(aE (aa 0) 20)]) (cE (.int 0))))]) (ah []))]
  [some (.ref k),some x,some (.int v),some (.int u),some (.int now)] S1) { nx:=λ_ S'=>R .aj S',rt:=R }:=by
  intro S1 e1;have k1:S1[k]?=some (.obj 0 [(28,.int room),(20,.ref (k+1))]):=by rw[e1];ac_rfl
  have k2:S1[k+1]?=some (.aG ((bp rows x).map kv)):=by rw[e1];ac_rfl
  apply aQ;apply f6;rfl';refine eJ (λhc=>?_) (λhc=>?_)
  .apply aQ;apply rP;rfl';refine rQ k2 (km hx) (eZ hd.2 hx) (by simp[sizeLine];omega) ?_;rw[vF (r:=(x,v,u)) (kT rows x)];apply bH;exact hb (bp rows x++[(x,v,u)]) _ (by rw[if_pos hc]) (xb hd (kT rows x) hx) (by rw[e1,List.set_set])
  .apply bH;exact hb (bp rows x) _ (by rw[if_neg hc]) hd e1
 rw[yc];apply aH;unfold pD;rfl';refine ak (gW (n+1) x S hx) ?_;rfl';refine ak (uU n v S v1 v2) ?_;rfl';refine ak (c6 (n+1) u S u1) ?_;rfl';refine ak (c6 (n+1) now S w1) ?_;apply aQ;apply f6;rfl';refine xu h2 (eZ hr.2 hx) ?_;rfl';refine⟨λhc=>?_,λhc=>?_⟩
 .apply aQ;apply qH;rfl';refine Al h2 (eZ hr.2 hx) hc ?_;rw[gO];apply bH;exact ha _ rfl
 .apply bH;have zm:∀r∈rows,r.1≠x:=by rw[fQ] at hc;intro r lF e;subst e;rw[iI hr.1 lF] at hc;simp at hc
  refine ha _ ?_;rw[ui zm];exact set_same h2
noncomputable def gK (rows:List Row)(x:D)(now:Int):Option Row:=rows.find? λr=>decide (r.1=x)&&decide (now<r.2.2)
noncomputable def eU (rows:List Row)(x:D)(now:Int):List Row:=match gK rows x now with
 | some r=>bp rows x++[r]
 | none=>rows
theorem vT {rows:List Row}{x:D}{now:Int}(h:∀r∈rows,r.1=x->r.2.2<=now):gK rows x now=none:=by unfold gK;rw[List.find?_eq_none];intro r hr;have:=h r hr;simp only[Bool.and_eq_true,decide_eq_true_eq,not_and];intro e;have:=this e;omega
theorem Eo {rows:List Row}(hn:(rows.map (·.1)).Nodup){r:Row}{now:Int}(hr:r∈rows)(h:now<r.2.2):gK rows r.1 now=some r:=by
 unfold gK
 induction rows with
 | nil=>simp at hr
 | cons s rows ih=>
  simp only[List.map_cons,List.nodup_cons] at hn;rcases List.mem_cons.mp hr with rfl | hr
  .simp[h]
  .have:s.1≠r.1:=λe=>hn.1 (e ▸ List.mem_map.mpr ⟨r,hr,rfl⟩);rw[List.find?_cons,decide_eq_false this,Bool.false_and];exact ih hn.2 hr
theorem JY {n k:Nat}{room:Int}{rows:List Row}{x:D}{now:Int}{S:ae}(h:KS k room rows S)(hr:c8 rows)(hb:rows.length<=9)(hx:aN x)(w1:0<=now):
 Wp ((ag P (n+4)).m 0 16 [.ref k,x,.int now] S) λv S'=>v=(match gK rows x now with | some r=>.tup [.int r.2.1,.int r.2.2] | none=>.aj)/\S'=S.set (k+1) (.aG ((eU rows x now).map kv)):=by
 obtain⟨h1,h2⟩:=h;have zA:=fi h2;rw[xT];apply aH;unfold oU;rfl';refine ak (gW n x S hx) ?_;rfl';refine ak (c6 n now S w1) ?_;rfl';refine qX h2 (eZ hr.2 hx) ?_;rfl';rw[fQ];cases hf:rows.find? λr=>decide (r.1=x) with
 | none=>
  have e:gK rows x now=none:=vT λr lF e=>by have:=List.find?_eq_none.mp hf r lF;simp[e] at this
  refine ji ?_;rfl';refine⟨by rw[e],?_⟩;unfold eU;rw[e];exact set_same h2
 | some r=>
  have hm:=List.mem_of_find?_eq_some hf;have he:r.1=x:=by simpa using List.find?_some hf
  subst he;refine l8 ?_;rfl';have hv:bB (rows.map kv) r.1=some (.tup [.int r.2.1,.int r.2.2]):=by rw[fQ,hf];rfl
  refine oG h2 (eZ hr.2 hx) hv ?_;rfl';refine eJ (λhc=>?_) (λhc=>?_)
  .have e:gK rows r.1 now=none:=vT λs hs e=>by
    have:s=r:=by have h3:=iI hr.1 hs;rw[e,hf] at h3;cases h3;rfl
    rw[this];exact hc
   rfl';refine⟨by rw[e],?_⟩;unfold eU;rw[e];exact set_same h2
  .have e:gK rows r.1 now=some r:=Eo hr.1 hm (by omega);rfl';refine⟨h2,c9 hx,eZ hr.2 hx,_,hv,?_⟩;rfl';have hd:c8 (bp rows r.1):=j6 hr (d6 _ _);refine rQ (dk h2) (km hx) (by rw[gO];exact eZ hd.2 hx) ?_ ?_
   .rw[gO,List.length_map];have:=(d6 rows r.1).length_le;unfold sizeLine;omega
   rfl';refine⟨by rw[e],?_⟩;unfold eU;rw[e,List.set_set,gO,vF (kT rows r.1)]
noncomputable def k7 (p:D×List Int):D×D:=(p.1,.tup (p.2.map .int))
noncomputable def g7 (l:List (D×List Int)):Prop:=∀p∈l,ju p.1/\gb p.2
theorem nX {l:List (D×List Int)}(h:g7 l):∀p∈l.map k7,aY p.1=true:=λp hp=>by obtain⟨r,hr,rfl⟩:=List.mem_map.mp hp;exact yK (h r hr).1
noncomputable def f9 (l:List (D×List Int))(x:D):Option (List Int):=(l.find? λp=>decide (p.1=x)).map (·.2)
theorem wC (l:List (D×List Int))(x:D):bB (l.map k7) x=(f9 l x).map λs=>.tup (s.map .int):=by rw[oo,f9,Option.map_map];rfl
noncomputable def eY (l:List (D×List Int))(ps:List D):Nat->Option (D×List Int)
 | 0=>(f9 l (.tup (ps.take 0))).map λs=>(.tup (ps.take 0),s)
 | m+1=>match f9 l (.tup (ps.take (m+1))) with
  | some s=>some (.tup (ps.take (m+1)),s)
  | none=>eY l ps m
noncomputable def partsOf:D->List D
 | .tup ps=>ps
 | _=>[]
noncomputable def dB (l:List (D×List Int))(x:D):List Int:=((eY l (partsOf x) (partsOf x).length).map (·.2)).getD []
noncomputable def TS (t:Nat)(l:List (D×List Int))(S:ae):Prop:=S[t]?=some (.obj 1 [(18,.ref (t+1))])/\S[t+1]?=some (.aG (l.map k7))
theorem vB {ps:List D}(h:∀p∈ps,p∈parts)(m:Nat):aY (.tup (ps.take m))=true:=by simp only[aY,List.all_eq_true];intro p hp;obtain⟨s,rfl⟩:=lR (h p (List.mem_of_mem_take hp));rfl
theorem Fm (n:Nat):(gG n).length=n+1:=by simp[gG]
theorem EZ {n i:Nat}{x:D}(h:(gG n)[i]?=some x):i<=n/\x = .int (((n-i:Nat):Int)):=by
 unfold gG at h;rw[List.getElem?_map] at h;cases hi:(List.range (n+1))[i]? with
 | none=>simp[hi] at h
 | some k=>
  obtain⟨h1,h2⟩:=List.getElem?_eq_some_iff.mp hi;simp at h1 h2;subst h2;rw[hi] at h;refine⟨by omega,?_⟩;have:x = .int ((n:Int)-(i:Int)):=by simpa using h.symm
  rw[this]
  congr 1
  omega
theorem HF {ρ:RF.Env}{S:ae}{K:En}{a:C D}{is:List Nat}{one:Bool}{b:CS}(h:Wp (a ρ S) λx S1=>∃j:Nat,x = .int j/\j<=1000/\Wf (forL is one b (gG j) ρ S1) K):Wf (fh (.down a) is one b ρ S) K:=du (wp_mono h λx S1 ⟨j,e,hg,h⟩=>by
 subst e;have:(0:Int)<=(j:Int)/\(j:Int)<=1000:=by omega
 simp only[if_pos this];exact h)
noncomputable def sJ (l:List (D×List Int))(ps:List D)(S:ae)(v:D)(S':ae):Prop:=match eY l ps ps.length with
 | some (b,s)=>v = .tup [b,.ref S.length]/\S'=S++[.lst (s.map .int)]
 | none=>v = .aj/\S'=S
theorem Mc {n t:Nat}{l:List (D×List Int)}{x:D}{S:ae}(h:TS t l S)(ho:g7 l)(hx:aN x):
 Wp ((ag P (n+4)).m 1 40 [.ref t,x] S) (sJ l (partsOf x) S):=by
 obtain⟨h1,h2⟩:=h;have xA:=hx;obtain⟨ps,rfl,l1,l2,hp⟩:=xA;rw[ya];apply aH;unfold pq;rfl';refine ak (gW n _ S hx) ?_;apply aQ;apply HF;rfl';refine⟨ps.length,rfl,by omega,?_⟩;refine j5 (Inv:=λi ρ S'=>S'=S/\(∃r2 r3,ρ=[some (.ref t),some (.tup ps),r2,r3])/\(i<=ps.length->eY l ps ps.length=eY l ps (ps.length-i))/\(i=ps.length+1->eY l ps ps.length=none)) ⟨rfl,⟨_,_,rfl⟩,λ_=>rfl,λh=>by omega⟩ (λ_ _ _ _ _=>rfl) (λi y ρ S' hy hI=>?_) (λρ S' hI=>?_)
 .obtain⟨rfl,⟨r2,r3,rfl⟩,hw,_⟩:=hI;obtain⟨hi,rfl⟩:=EZ hy;have hw:=hw hi;refine⟨_,rfl,?_⟩;show Wf (ah _ [some (.ref t),some (.tup ps),some (.int ((ps.length-i:Nat):Int)),r3] S') _;apply aQ;apply gy;have hs:Wp (fN (aa 1) none (some (aa 2)) [some (.ref t),some (.tup ps),some (.int ((ps.length-i:Nat):Int)),r3] S') λv S1=>v = .tup (ps.take (ps.length-i))/\S1=S':=by
   refine ak (a:=.tup (ps.take (ps.length-i))) (S:=S') ?_ ⟨rfl,rfl⟩;show R.ok (D.tup (cutD ps none (some ((ps.length-i:Nat):Int)))) S'=_;unfold cutD aX;have:¬(((ps.length-i:Nat):Int)<0):=by omega
   have e:min ((ps.length-i:Nat):Int).toNat ps.length=ps.length-i:=by omega
   simp only[if_neg this,e];simp
  refine wp_mono hs λv S1 ⟨ev,e1⟩=>?_;subst ev e1;rfl';refine xu h2 (jT (nX ho) (vB hp _)) ?_;rfl';rw[wC];cases hl:f9 l (.tup (ps.take (ps.length-i))) with
  | some s=>
   have hway:eY l ps ps.length=some (.tup (ps.take (ps.length-i)),s):=by
    rw[hw];cases hm:ps.length-i with
    | zero=>rw[hm] at hl;simp only[eY,hl,Option.map_some]
    | succ m=>rw[hm] at hl;simp only[eY,hl]
   refine l8 ?_;rfl';refine oG h2 (jT (nX ho) (vB hp _)) (by rw[wC,hl];rfl) ?_;rfl';show sJ l ps S1 _ _;unfold sJ;rw[hway];exact⟨rfl,rfl⟩
  | none=>
   refine ji ?_;rfl';refine⟨rfl,⟨_,_,rfl⟩,λh=>?_,λh=>?_⟩
   .rw[hw];obtain⟨m,hm⟩:∃m,ps.length-i=m+1:=⟨ps.length-i-1,by omega⟩;rw[hm] at hl ⊢;have:ps.length-(i+1)=m:=by omega
    rw[this];simp only[eY,hl]
   .have:ps.length-i=0:=by omega
    rw[hw,this];rw[this] at hl;simp only[eY,hl,Option.map_none]
 .obtain⟨rfl,⟨r2,r3,rfl⟩,_,hw⟩:=hI;have hw:=hw (Fm _);rfl';show sJ l ps S' _ _;unfold sJ;rw[hw];exact⟨rfl,rfl⟩
theorem Fl {n t:Nat}{l:List (D×List Int)}{x:D}{S:ae}(h:TS t l S)(ho:g7 l)(hx:aN x):
 (ag P (n+5)).m 1 29 [.ref t,x] S = .ok (.ref S.length) (S++[.lst ((dB l x).map .int)]):=by
 obtain⟨h1,h2⟩:=h;rw[uW];apply bW;apply aH;unfold mq;rfl';refine wp_mono (Mc (n:=n) ⟨h1,h2⟩ ho hx) λv S' hv=>?_;unfold sJ at hv;cases hw:eY l (partsOf x) (partsOf x).length with
 | none=>rw[hw] at hv;obtain⟨rfl,rfl⟩:=hv;rfl';refine iF rfl ?_;rfl';refine⟨rfl,?_⟩;unfold dB;rw[hw];rfl
 | some p=>obtain⟨b,s⟩:=p;rw[hw] at hv;obtain⟨rfl,rfl⟩:=hv;rfl';refine iN (λe=>by cases e) ?_;rfl';refine⟨rfl,?_⟩;unfold dB;rw[hw];rfl
noncomputable def jj (l:List (D×List Int))(b:D)(s:List Int):List (D×List Int):=if l.any (λp=>decide (p.1=b))=true then l.map λp=>if p.1=b then (p.1,s) else p else l++[(b,s)]
theorem DY (l:List (D×List Int))(b:D)(s:List Int):putD (l.map k7) b (.tup (s.map .int))=(jj l b s).map k7:=by
 unfold putD jj;rw[List.any_map];have:((λkv:D×D=>decide (kv.1=b)) ∘ k7)=λp:D×List Int=>decide (p.1=b):=rfl;rw[this];split
 .rw[List.map_map,List.map_map];apply List.map_congr_left;intro p _;show (if p.1=b then (p.1,D.tup (s.map D.int)) else k7 p)=k7 (if p.1=b then (p.1,s) else p);split<;>rfl
 .rw[List.map_append];rfl
theorem Hn {l:List (D×List Int)}{b:D}{s:List Int}(h:g7 l)(hb:ju b)(hs:gb s):g7 (jj l b s):=by
 unfold jj;intro p hp;split at hp
 .obtain⟨q,hq,e⟩:=List.mem_map.mp hp;split at e
  .rw[<-e];exact⟨(h q hq).1,hs⟩
  .rw[<-e];exact h q hq
 .rcases List.mem_append.mp hp with hp | hp
  .exact h p hp
  .rw[List.mem_singleton.mp hp];exact⟨hb,hs⟩
theorem Je {n t s:Nat}{l:List (D×List Int)}{b:D}{kC:List Int}{S:ae}(h:TS t l S)(ho:g7 l)(hb:ju b)(hl:l.length<1000)(h3:S[s]?=some (.lst (kC.map .int)))(hs:gb kC):
 (ag P (n+6)).m 1 26 [.ref t,b,.ref s] S = .ok .aj (S.set (t+1) (.aG ((jj l b kC).map k7))):=by
 obtain⟨h1,h2⟩:=h;rw[x5];apply bW;apply aH;unfold oX;rfl';refine ak (x9 (n+1) _ S hb) ?_;rfl';refine ak (mz n _ _ S h3 hs) ?_;rfl';refine ak (a:=.tup (kC.map .int)) (S:=S) (by simp only[cx,bf h3]) ?_;rfl';refine rQ h2 (Fx hb) (jT (nX ho) (yK hb)) (by simp[sizeLine];omega) ?_;rfl';rw[DY];exact⟨rfl,rfl⟩
structure WA where
 nm:D
 since:Int
 aJ:List D
 asked:List Int
 gL:List Int
structure HA where
 num:Int
 near:List Int
 room:Int
 pat:Int
 kept:List Row
 held:List (D×List Int)
 things:List Row
 aZ:List (D×Int×Int×Int)
 ends:List D
noncomputable abbrev WL:=List (WA×Nat)
noncomputable def d4 (p:WA×Nat):D×D:=(p.1.nm,.ref p.2)
noncomputable def ij (r:D×Int×Int×Int):D×D:=(.tup [r.1,.int r.2.1],.tup [.int r.2.2.1,.int r.2.2.2])
noncomputable abbrev sN (w:Nat)(since:Int):O:=.obj 2 [(30,.int since),(7,.ref (w+1)),(6,.ref (w+2)),(22,.ref (w+3))]
noncomputable abbrev My (h:Nat)(num pat:Int):O:=.obj 3 [(31,.ref (h+1)),(23,.int num),(8,.ref (h+3)),(24,.int pat),(21,.ref (h+4)),(33,.ref (h+6)),(39,.ref (h+7)),(17,.ref (h+8)),(12,.ref (h+9))]
structure nU (S:ae)(x:WA)(w:Nat):Prop where
 o0:S[w]?=some (sN w x.since)
 o1:S[w+1]?=some (.lst x.aJ)
 o2:S[w+2]?=some (.lst (x.asked.map .int))
 o3:S[w+3]?=some (.lst (x.gL.map .int))
structure br (S:ae)(h:Nat)(a:HA)(L:WL):Prop where
 o0:S[h]?=some (My h a.num a.pat)
 o1:S[h+1]?=some (.obj 0 [(28,.int a.room),(20,.ref (h+1+1))])
 o2:S[h+1+1]?=some (.aG (a.kept.map kv))
 o3:S[h+3]?=some (.lst (a.near.map .int))
 o4:S[h+4]?=some (.obj 1 [(18,.ref (h+4+1))])
 o5:S[h+4+1]?=some (.aG (a.held.map k7))
 o6:S[h+6]?=some (.aG (a.things.map kv))
 o7:S[h+7]?=some (.aG (L.map d4))
 o8:S[h+8]?=some (ip (a.aZ.map ij))
 o9:S[h+9]?=some (.lst a.ends)
 ws:∀p∈L,nU S p.1 p.2
 lo:∀p∈L,h+10<=p.2
 ap:L.Pairwise λp q=>p.2+4<=q.2\/q.2+4<=p.2
noncomputable def In (h:Nat)(L:WL)(i:Nat):Prop:=(h<=i/\i<h+10)\/∃p∈L,p.2<=i/\i<p.2+4
theorem nU.fr {S S':ae}{W:Nat->Prop}{x:WA}{w:Nat}(h:nU S x w)(hf:Fr W S S')(hw:∀i,w<=i->i<w+4->¬W i):nU S' x w:=
 ⟨hf.at h.o0 (hw _ (by omega) (by omega)),hf.at h.o1 (hw _ (by omega) (by omega)),hf.at h.o2 (hw _ (by omega) (by omega)),hf.at h.o3 (hw _ (by omega) (by omega))⟩
theorem nU.lt {S:ae}{x:WA}{w:Nat}(h:nU S x w):w+4<=S.length:=fi h.o3
theorem br.fr {S S':ae}{W:Nat->Prop}{h:Nat}{a:HA}{L:WL}(hh:br S h a L)(hf:Fr W S S')(hw:∀i,In h L i->¬W i):br S' h a L:=by
 have hi:∀i,h<=i->i<h+10->¬W i:=λi h1 h2=>hw i (Or.inl ⟨h1,h2⟩);exact⟨hf.at hh.o0 (hi _ (by omega) (by omega)),hf.at hh.o1 (hi _ (by omega) (by omega)),hf.at hh.o2 (hi _ (by omega) (by omega)),hf.at hh.o3 (hi _ (by omega) (by omega)),hf.at hh.o4 (hi _ (by omega) (by omega)),hf.at hh.o5 (hi _ (by omega) (by omega)),hf.at hh.o6 (hi _ (by omega) (by omega)),hf.at hh.o7 (hi _ (by omega) (by omega)),hf.at hh.o8 (hi _ (by omega) (by omega)),hf.at hh.o9 (hi _ (by omega) (by omega)),
  λp hp=>(hh.ws p hp).fr hf λi h1 h2=>hw i (Or.inr ⟨p,hp,h1,h2⟩),hh.lo,hh.ap⟩
theorem br.app {S T:ae}{h:Nat}{a:HA}{L:WL}(hh:br S h a L):br (S++T) h a L:=hh.fr (Fr.app no S T) λ_ _ h=>h
theorem br.lt {S:ae}{h:Nat}{a:HA}{L:WL}(hh:br S h a L):h+10<=S.length:=fi hh.o9
noncomputable def d9 (m:Nat)(y:D):Prop:=(∃i,y = .int i)\/∃k:Nat,y = .tup [.str "own",.int k]/\k<m
theorem oK {m:Nat}{y:D}(h:d9 m y):cf 4 y=true:=by rcases h with⟨i,rfl⟩|⟨k,rfl,_⟩<;>rfl
theorem d9.mono {m m':Nat}{y:D}(h:d9 m y)(hm:m<=m'):d9 m' y:=by
 rcases h with h | ⟨k,e,hk⟩
 .exact Or.inl h
 .exact Or.inr ⟨k,e,by omega⟩
structure nJ (m B:Nat)(x:WA):Prop where
 nm:aN x.nm
 aJ:∀y∈x.aJ,d9 m y
 wl:x.aJ.length<=B
 al:x.asked.length<=8*B
 nl:x.gL.length<=B
 wn:x.aJ.Nodup
structure aL (a:HA)(L:List WA)(B:Nat):Prop where
 near:gb a.near
 r0:0<=a.room
 r9:a.room<=9
 kept:c8 a.kept
 kl:(a.kept.length:Int)<=a.room
 held:g7 a.held
 hl:a.held.length<1000
 things:c8 a.things
 tl:a.things.length<=B
 wn:(L.map λp=>p.nm).Nodup
 wk:∀p∈L,nJ a.ends.length B p
 el:a.ends.length<=B
 pn:∀r∈a.aZ,aN r.1
 pl:a.aZ.length<=B
 ll:L.length<=B
 bl:B<=100000
theorem jv (S:ae)(o:O)(l:List O):(S++o::l)[S.length]?=some o:=by simp
theorem hJ (S:ae)(o o':O)(l:List O):(S++o::l).set S.length o'=S++o'::l:=by simp
theorem pY (S:ae)(j:Nat)(l:List O):(S++l)[S.length+j]?=l[j]?:=by rw[List.getElem?_append_right (Nat.le_add_right _ _),Nat.add_sub_cancel_left]
noncomputable abbrev qz (num:Int)(near:List Int)(room pat:Int):HA:=⟨num,near,room,pat,[],[],[],[],[]⟩
theorem AZ (n t:Nat)(S:ae)(ht:t=S.length):(ag P (n+1)).m 1 0 [.ref t] (S++[.obj 1 []]) = .ok .aj (S++[.obj 1 [(18,.ref (t+1))],.aG []]):=by subst ht;rw[vG];apply bW;apply aH;unfold nu;rfl';simp[eg]
theorem Ab (n h s:Nat)(num room pat:Int)(near:List Int)(S:ae)(hh:h=S.length)(hs:S[s]?=some (.lst (near.map .int)))(hn:gb near)(n1:0<=num)(n2:num<=7)(n3:num∉near)(r1:0<=room)(r2:room<=9)(w1:1<=pat)(w2:pat<=20):
 Wp ((ag P (n+6)).m 3 0 [.ref h,.int num,.ref s,.int room,.int pat] (S++[.obj 3 []])) λr S'=>r = .aj/\br S' h (qz num near room pat) []/\Fr no S S'/\S'.length=h+10:=by
 subst hh;have hsl:=fi hs;rw[wD];apply aH;unfold nC;rfl';refine ak (gf (n+2) _ _ _ _ n1 n2) ?_;rfl';refine ak (mz n s near _ (cG hs) hn) ?_;rfl';refine La (cG hs) rfl (λy hy=>by obtain⟨i,_,rfl⟩:=List.mem_map.mp hy;rfl) ?_;rfl';refine iN (λhm=>?_) ?_
 .obtain⟨i,hi,e⟩:=List.mem_map.mp hm;cases e;exact n3 hi
 rfl';apply oE;rfl';refine ak (zN (n+1) _ room _ rfl r1 r2) ?_;refine⟨rfl,?_⟩;have l1:(S++[O.obj 3 []]).length=S.length+1:=by simp
 rw[l1];simp only[List.append_assoc,List.cons_append,List.nil_append];rfl';refine jL (jv _ _ _) rfl ?_;simp only[hJ,eg];rfl';refine ak (gf (n+2) _ _ _ _ w1 w2) ?_;rfl';refine jL (jv _ _ _) rfl ?_;simp only[hJ,eg,Nat.reduceEqDiff,if_false];rfl';simp only[List.append_assoc,List.cons_append,List.nil_append,List.length_append,List.length_cons,List.length_nil,Nat.zero_add,Nat.reduceAdd];refine jL (jv _ _ _) rfl ?_;simp only[hJ,eg,Nat.reduceEqDiff,if_false];rfl';refine jL (jv _ _ _) rfl ?_;simp only[hJ,eg,Nat.reduceEqDiff,if_false];rfl';apply oE;rfl';refine ak (AZ (n+4) _ _ rfl) ?_;refine⟨rfl,?_⟩;simp only[List.append_assoc,List.cons_append,List.nil_append,List.length_append,List.length_cons,List.length_nil,Nat.zero_add,Nat.reduceAdd];rfl';refine jL (jv _ _ _) rfl ?_;simp only[hJ,eg,Nat.reduceEqDiff,if_false];rfl';simp only[List.append_assoc,List.cons_append,List.nil_append,List.length_append,List.length_cons,List.length_nil,Nat.zero_add,Nat.reduceAdd];refine jL (jv _ _ _) rfl ?_;simp only[hJ,eg,Nat.reduceEqDiff,if_false];rfl';simp only[List.append_assoc,List.cons_append,List.nil_append,List.length_append,List.length_cons,List.length_nil,Nat.zero_add,Nat.reduceAdd];refine jL (jv _ _ _) rfl ?_;simp only[hJ,eg,Nat.reduceEqDiff,if_false];rfl';simp only[List.append_assoc,List.cons_append,List.nil_append,List.length_append,List.length_cons,List.length_nil,Nat.zero_add,Nat.reduceAdd];refine jL (jv _ _ _) rfl ?_;simp only[hJ,eg,Nat.reduceEqDiff,if_false];rfl';simp only[List.append_assoc,List.cons_append,List.nil_append,List.length_append,List.length_cons,List.length_nil,Nat.zero_add,Nat.reduceAdd];refine jL (jv _ _ _) rfl ?_;simp only[hJ,eg,Nat.reduceEqDiff,if_false];rfl';refine⟨trivial,⟨by simp,by simp,pY _ 2 _,by simp,by simp,pY _ 5 _,by simp,by simp,by simp;rfl,by simp,by simp,by simp,by simp⟩,Fr.app _ _ _,by simp⟩
theorem br.kept {S:ae}{h:Nat}{a:HA}{L:WL}(hh:br S h a L)(k:List Row):br (S.set (h+1+1) (.aG (k.map kv))) h { a with kept:=k } L:=by have hl:=hh.lt;obtain⟨o0,o1,o2,o3,o4,o5,o6,o7,o8,o9,ws,lo,ap⟩:=hh;exact⟨by ac_rfl,by ac_rfl,by ac_rfl,by ac_rfl,by ac_rfl,by ac_rfl,by ac_rfl,by ac_rfl,by ac_rfl,by ac_rfl,λp hp=>(ws p hp).fr (Fr.set (· = h+1+1) _ _ _ rfl) λi h1 h2=>by have:=lo p hp;omega,lo,ap⟩
theorem br.held {S:ae}{h:Nat}{a:HA}{L:WL}(hh:br S h a L)(k:List (D×List Int)):br (S.set (h+4+1) (.aG (k.map k7))) h { a with held:=k } L:=by have hl:=hh.lt;obtain⟨o0,o1,o2,o3,o4,o5,o6,o7,o8,o9,ws,lo,ap⟩:=hh;exact⟨by ac_rfl,by ac_rfl,by ac_rfl,by ac_rfl,by ac_rfl,by ac_rfl,by ac_rfl,by ac_rfl,by ac_rfl,by ac_rfl,λp hp=>(ws p hp).fr (Fr.set (· = h+4+1) _ _ _ rfl) λi h1 h2=>by have:=lo p hp;omega,lo,ap⟩
theorem br.aZ {S:ae}{h:Nat}{a:HA}{L:WL}(hh:br S h a L)(k:List (D×Int×Int×Int)):br (S.set (h+8) (ip (k.map ij))) h { a with aZ:=k } L:=by have hl:=hh.lt;obtain⟨o0,o1,o2,o3,o4,o5,o6,o7,o8,o9,ws,lo,ap⟩:=hh;exact⟨by ac_rfl,by ac_rfl,by ac_rfl,by ac_rfl,by ac_rfl,by ac_rfl,by ac_rfl,by ac_rfl,by ac_rfl,by ac_rfl,λp hp=>(ws p hp).fr (Fr.set (· = h+8) _ _ _ rfl) λi h1 h2=>by have:=lo p hp;omega,lo,ap⟩
theorem br.ends {S:ae}{h:Nat}{a:HA}{L:WL}(hh:br S h a L)(k:List D):br (S.set (h+9) (.lst k)) h { a with ends:=k } L:=by have hl:=hh.lt;obtain⟨o0,o1,o2,o3,o4,o5,o6,o7,o8,o9,ws,lo,ap⟩:=hh;exact⟨by ac_rfl,by ac_rfl,by ac_rfl,by ac_rfl,by ac_rfl,by ac_rfl,by ac_rfl,by ac_rfl,by ac_rfl,by ac_rfl,λp hp=>(ws p hp).fr (Fr.set (· = h+9) _ _ _ rfl) λi h1 h2=>by have:=lo p hp;omega,lo,ap⟩
theorem br.Gd {S:ae}{h:Nat}{a:HA}{L L':WL}(hh:br S h a L)(hs:L'.Sublist L):br (S.set (h+7) (.aG (L'.map d4))) h a L':=by have hl:=hh.lt;obtain⟨o0,o1,o2,o3,o4,o5,o6,o7,o8,o9,ws,lo,ap⟩:=hh;exact⟨by ac_rfl,by ac_rfl,by ac_rfl,by ac_rfl,by ac_rfl,by ac_rfl,by ac_rfl,by ac_rfl,by ac_rfl,by ac_rfl,λp hp=>(ws p (hs.subset hp)).fr (Fr.set (· = h+7) _ _ _ rfl) λi h1 h2=>by have:=lo p (hs.subset hp);omega,λp hp=>lo p (hs.subset hp),ap.sublist hs⟩
theorem sQ {h:Nat}{L:WL}{i:Nat}(h1:h<=i)(h2:i<h+10):In h L i:=Or.inl ⟨h1,h2⟩
theorem DN {n h s:Nat}{a:HA}{L:WL}{B:Nat}{b:D}{kC:List Int}{S:ae}(hh:br S h a L)(ho:aL a (L.map (·.1)) B)(hb:ju b)(h3:S[s]?=some (.lst (kC.map .int)))(hs:gb kC):
 (ag P (n+7)).m 3 32 [.ref h,b,.ref s] S = .ok .aj (S.set (h+4+1) (.aG ((jj a.held b kC).map k7))):=by
 obtain⟨o0,o1,o2,o3,o4,o5,o6,o7,o8,o9,ws,lo,ap⟩:=hh;rw[uR];apply bW;apply aH;unfold mn;rfl';refine ak (Je (n:=n) ⟨o4,o5⟩ ho.held hb ho.hl h3 hs) ?_;exact⟨rfl,rfl⟩
noncomputable def cW (a:HA)(x:D):List Int:=(dB a.held x).filter λi=>decide (i∈a.near)
theorem gh {l:List Int}{i:Int}:(D.int i∈l.map D.int)↔i∈l:=by simp
theorem BL {n h:Nat}{a:HA}{L:WL}{x:D}{S:ae}(hh:br S h a L)(ho:g7 a.held)(hx:aN x):
 (ag P (n+6)).m 3 38 [.ref h,x] S = .ok (.ref (S.length+1)) (S++[.lst ((dB a.held x).map .int),.lst ((cW a x).map .int)]):=by
 have hl:=hh.lt;obtain⟨o0,o1,o2,o3,o4,o5,o6,o7,o8,o9,ws,lo,ap⟩:=hh;have hsl:(dB a.held x).length<=8:=by
  unfold dB;cases hw:eY a.held (partsOf x) (partsOf x).length with
  | none=>simp
  | some p=>
   have:∀m,eY a.held (partsOf x) m=some p->p.2.length<=8:=by
    have so:∀y s,f9 a.held y=some s->s.length<=8:=by
     intro y s e;unfold f9 at e;cases hf:a.held.find? λp=>decide (p.1=y) with
     | none=>simp[hf] at e
     | some q=>rw[hf] at e;have:=(ho q (List.mem_of_find?_eq_some hf)).2.2.1;simp at e;rw[<-e];exact this
    intro m
    induction m with
    | zero=>
     intro e;simp only[eY] at e;cases hk:f9 a.held (.tup ((partsOf x).take 0)) with
     | none=>rw[hk] at e;cases e
     | some s=>rw[hk] at e;simp only[Option.map_some,Option.some.injEq] at e;rw[<-e];exact so _ _ hk
    | succ m ih=>
     intro e;simp only[eY] at e;cases hk:f9 a.held (.tup ((partsOf x).take (m+1))) with
     | none=>rw[hk] at e;exact ih e
     | some s=>rw[hk] at e;simp at e;rw[<-e];exact so _ _ hk
   exact this _ hw
 rw[sA];apply bW;apply aH;unfold ly;apply aQ;apply k8;apply lX;rfl';refine ak (Fl (n:=n) ⟨o4,o5⟩ ho hx) ?_;refine cl (bt _ _) (by simp[sizeLine];omega) (λy=>decide (y∈a.near.map D.int)) id (λy hy=>⟨?_,λ_=>rfl⟩) ?_
 .obtain⟨i,_,rfl⟩:=List.mem_map.mp hy;apply bW;rfl';refine La (cG o3) rfl (λy hy=>by obtain⟨i,_,rfl⟩:=List.mem_map.mp hy;rfl) ?_;rfl';exact⟨rfl,rfl⟩
 .have:(((dB a.held x).map D.int).filter λy=>decide (y∈a.near.map D.int)).map id=(cW a x).map D.int:=by
   rw[List.map_id,List.filter_map];unfold cW
   congr 1
   apply List.filter_congr;intro i _;simp
  rw[this];simp
noncomputable def rB (a:HA)(x:D)(now:Int):Option (D×Int×Int×Int):=a.aZ.find? λr=>decide ((ij r).1 = .tup [x,.int now])
noncomputable def iX (a:HA)(x:D)(now:Int):Option (Int×Int):=match a.things.find? λr=>decide (r.1=x) with
 | some r=>some (r.2.1,now+r.2.2)
 | none=>match gK a.kept x now with
  | some r=>some r.2
  | none=>(rB a x now).map λr=>r.2.2
noncomputable def cy (a:HA)(x:D)(now:Int):List Row:=match a.things.find? λr=>decide (r.1=x) with
 | some _=>a.kept
 | none=>eU a.kept x now
noncomputable def pairD (p:Int×Int):D:=.tup [.int p.1,.int p.2]
theorem FW {n h:Nat}{a:HA}{L:WL}{B:Nat}{x:D}{now:Int}{S:ae}(hh:br S h a L)(ho:aL a (L.map (·.1)) B)(hx:aN x)(hw:0<=now):
 (ag P (n+5)).m 3 14 [.ref h,x,.int now] S = .ok (((iX a x now).map pairD).getD .aj) (S.set (h+1+1) (.aG ((cy a x now).map kv))):=by
 have hl:=hh.lt;obtain⟨o0,o1,o2,o3,o4,o5,o6,o7,o8,o9,ws,lo,ap⟩:=hh;rw[uP];apply bW;apply aH;unfold mC;rfl';refine xu o6 (eZ ho.things.2 hx) ?_;rfl';rw[fQ];unfold iX cy;cases hf:a.things.find? λr=>decide (r.1=x) with
 | some r=>refine l8 ?_;rfl';refine oG o6 (eZ ho.things.2 hx) (by rw[fQ,hf];rfl) ?_;refine⟨_,_,rfl,rfl,?_⟩;rfl';exact⟨rfl,set_same o2⟩
 | none=>
  refine ji ?_;rfl';refine wp_mono (JY (n:=n) ⟨o1,o2⟩ ho.kept (by have:=ho.kl;have:=ho.r9;omega) hx hw) λv S' ⟨ev,eS⟩=>?_;subst ev eS;have q0:(S.set (h+1+1) (.aG ((eU a.kept x now).map kv)))[h]?=some (My h a.num a.pat):=by ac_rfl
  have q8:(S.set (h+1+1) (.aG ((eU a.kept x now).map kv)))[h+8]?=some (ip (a.aZ.map ij)):=by ac_rfl
  cases hg:gK a.kept x now with
  | some r=>dsimp only;rfl';refine iN (λe=>by cases e) ?_;rfl';exact⟨rfl,rfl⟩
  | none=>
   dsimp only;rfl';refine iF rfl ?_;rfl';refine⟨_,rfl,by ac_rfl,?_,?_⟩
   .obtain⟨ps,rfl,_,_,hp⟩:=hx;show aY (.tup ps)=true;exact c9 ⟨ps,rfl,by assumption,by assumption,hp⟩
   .show _/\_;refine⟨?_,rfl⟩;rw[oo];unfold rB;cases a.aZ.find? λr=>decide ((ij r).1 = .tup [x,.int now])<;>rfl
noncomputable def qS:D->Bool
 | .int _=>true
 | _=>false
noncomputable def lettersOf (ys:List D)(cq:D):List D:=(ys.filter qS).map λy=>.tup [y,cq]
noncomputable def jH (e:D)(l:List D)(y:D):List D:=match y with
 | .tup [_,.int k]=>l.set k.toNat e
 | _=>l
noncomputable def bu (l:List D)(ys:List D)(e:D):List D:=ys.foldl (jH e) l
theorem d5 (ys:List D)(e:D):∀l:List D,(bu l ys e).length=l.length:=by
 induction ys with
 | nil=>intro l;rfl
 | cons y ys ih=>intro l;show (bu (jH e l y) ys e).length=_;rw[ih];unfold jH;split<;>simp
noncomputable def Cy (cq e:D):Prop:=(∃x v u,cq = .tup [.str "thing",x,.int v,.int u]/\e = .tup [.int v])\/∃x,cq = .tup [.str "no",x]/\e = .tup [.aj]
theorem lz {ρ:RF.Env}{S:ae}{K:En}{is:List Nat}{one:Bool}{b:CS}{n:Nat}{xs:List D}(h:S[n]?=some (.lst xs))(w:Wf (e6 (e9 (.ref n) xs) is one b xs ρ S) K):Wf (s9 is one b (.ref n) ρ S) K:=by unfold s9;simp only[h];exact w
theorem take_succ {α:Type}{l:List α}{i:Nat}{x:α}(h:l[i]?=some x):l.take (i+1)=l.take i++[x]:=by rw[List.take_succ,h];rfl
theorem JC {n h r:Nat}{a:HA}{L:WL}{B:Nat}{ys:List D}{cq e:D}{S:ae}(hh:br S h a L)(hr:S[r]?=some (.lst ys))(cN:r≠h+9)(hy:∀y∈ys,d9 a.ends.length y)(hb:ys.length<=B)(hB:B<=1000000)(hle:Cy cq e):
 (ag P (n+1)).m 3 35 [.ref h,.ref r,cq] S = .ok (.ref S.length) ((S++[O.lst (lettersOf ys cq)]).set (h+9) (.lst (bu a.ends ys e))):=by
 have hl:=hh.lt;have hrl:=fi hr;obtain⟨o0,o1,o2,o3,o4,o5,o6,o7,o8,o9,ws,lo,ap⟩:=hh;rw[xi];apply bW;apply aH;unfold mY;apply aQ;apply gy;refine ak (a:=e) (S:=S) ?_ ?_
 .rcases hle with⟨x,v,u,rfl,rfl⟩|⟨x,rfl,rfl⟩
  .kernel_rfl
  .kernel_rfl
 rfl';refine lz (cG hr) ?_;refine j5 (Inv:=λi ρ S'=>(∃r5,ρ=[some (.ref h),some (.ref r),some cq,some e,some (.ref S.length),r5])/\S'=(S++[O.lst (lettersOf (ys.take i) cq)]).set (h+9) (.lst (bu a.ends (ys.take i) e))) ⟨⟨_,rfl⟩,?_⟩ (λi ρ S' _ hI=>?_) (λi y ρ S' hi hI=>?_) (λρ S' hI=>?_)
 .exact set_same (cG o9)
 .obtain⟨_,rfl⟩:=hI;exact decide_eq_true (bf (by ac_rfl))
 .obtain⟨⟨r5,rfl⟩,rfl⟩:=hI;have hiy:i<ys.length:=(List.getElem?_eq_some_iff.mp hi).1;refine⟨_,rfl,?_⟩;show Wf (ah _ [some (.ref h),some (.ref r),some cq,some e,some (.ref S.length),some y] _) _;rcases hy y (List.mem_of_getElem? hi) with⟨j,rfl⟩|⟨k,rfl,hk⟩
  .rfl';refine⟨lettersOf (ys.take i) cq,by ac_rfl,?_,?_⟩
   .unfold lettersOf;rw[List.length_map];have h1:=List.length_filter_le qS (ys.take i);have h2:=List.length_take_le i ys;unfold sizeLine;omega
   rfl';refine⟨⟨_,rfl⟩,?_⟩;rw[take_succ hi];have e1:lettersOf (ys.take i++[D.int j]) cq=lettersOf (ys.take i) cq++[.tup [.int j,cq]]:=by unfold lettersOf;simp[List.filter_append,qS]
   have e2:bu a.ends (ys.take i++[D.int j]) e=bu a.ends (ys.take i) e:=by unfold bu;rw[List.foldl_append];rfl
   rw[e1,e2,List.set_comm _ _ (by omega)]
   congr 1
   simp
  .rfl';refine NQ (j:=k) (xs:=bu a.ends (ys.take i) e) (by ac_rfl) ?_ ?_
   .rw[d5];unfold qP;rw[if_pos (by omega),if_pos (by omega)];simp
   rfl';refine⟨⟨_,rfl⟩,?_⟩;rw[take_succ hi];have e1:lettersOf (ys.take i++[D.tup [.str "own",.int k]]) cq=lettersOf (ys.take i) cq:=by unfold lettersOf;simp[List.filter_append,qS]
   have e2:bu a.ends (ys.take i++[D.tup [.str "own",.int k]]) e=(bu a.ends (ys.take i) e).set k e:=by unfold bu;rw[List.foldl_append];rfl
   rw[e1,e2,List.set_set]
 .obtain⟨⟨r5,rfl⟩,rfl⟩:=hI;rfl';rw[List.take_length];exact⟨rfl,rfl⟩
noncomputable def Out (S:ae)(h:Nat)(L:WL)(a':HA)(L':WL)(ls:List D)(v:D)(S':ae):Prop:=
 ∃r,v = .ref r/\S.length<=r/\S'[r]?=some (.lst ls)/\br S' h a' L'/\Fr (In h L) S S'/\(∀p∈L',(∃q∈L,q.2=p.2)\/S.length<=p.2)/\¬In h L' r
theorem LG {h:Nat}{L L1:WL}{S:ae}(hl:∀p∈L1,(∃q∈L,q.2=p.2)\/S.length<=p.2):∀i,i<S.length->In h L1 i->In h L i:=by
 intro i hi kc;rcases kc with kc | ⟨p,hp,h1,h2⟩
 .exact Or.inl kc
 .rcases hl p hp with⟨q,hq,e⟩ | zw
  .exact Or.inr ⟨q,hq,by omega,by omega⟩
  .omega
theorem Out.pre {S S1:ae}{h:Nat}{L L1:WL}{a':HA}{L':WL}{ls:List D}{v:D}{S':ae}(hf:Fr (In h L) S S1)(hl:∀p∈L1,(∃q∈L,q.2=p.2)\/S.length<=p.2)(o:Out S1 h L1 a' L' ls v S'):Out S h L a' L' ls v S':=by
 obtain⟨r,e,h1,h2,h3,h4,h5,h6⟩:=o;refine⟨r,e,Nat.le_trans hf.1 h1,h2,h3,hf.trans h4 (LG hl),λp hp=>?_,h6⟩;rcases h5 p hp with⟨q,hq,e⟩ | zw
 .rcases hl q hq with⟨q',gD,e'⟩ | zw
  .exact Or.inl ⟨q',gD,by omega⟩
  .exact Or.inr (by omega)
 .exact Or.inr (Nat.le_trans hf.1 zw)
theorem br.fresh {S:ae}{h:Nat}{a:HA}{L:WL}(hh:br S h a L){r:Nat}(hr:S.length<=r):¬In h L r:=by
 have:=hh.lt;rintro (⟨h1,h2⟩|⟨p,hp,h1,h2⟩)
 .omega
 .have:=(hh.ws p hp).lt;omega
theorem lS {n h r:Nat}{a:HA}{L:WL}{B:Nat}{ys:List D}{cq e:D}{S:ae}(hh:br S h a L)(hr:S[r]?=some (.lst ys))(cN:r≠h+9)(hy:∀y∈ys,d9 a.ends.length y)(hb:ys.length<=B)(hB:B<=1000000)(hle:Cy cq e):
 Wp ((ag P (n+1)).m 3 35 [.ref h,.ref r,cq] S) (Out S h L { a with ends:=bu a.ends ys e } L (lettersOf ys cq)):=by
 have hl:=hh.lt;refine ak (JC hh hr cN hy hb hB hle) ?_;refine⟨_,rfl,Nat.le_refl _,gH (bt _ _) (by omega),hh.app.ends _,dn (dm (Fr.refl _ _)) λ_=>sQ (by omega) (by omega),λp hp=>Or.inl ⟨p,hp,rfl⟩,hh.fresh (Nat.le_refl _)⟩
noncomputable def dP (L:WL)(x:D):WL:=L.filter λp=>decide (p.1.nm≠x)
noncomputable def dh (L:WL)(x:D):Option (WA×Nat):=L.find? λp=>decide (p.1.nm=x)
theorem lL (L:WL)(x:D):bB (L.map d4) x=(dh L x).map λp=>.ref p.2:=oo d4 L x
theorem Cq (L:WL)(x:D):iP (L.map d4) x=(dP L x).map d4:=by unfold iP dP;rw[List.filter_map];rfl
theorem gC {L:WL}(hn:((L.map (·.1)).map (·.nm)).Nodup){p:WA×Nat}(hp:p∈L):dh L p.1.nm=some p:=by
 unfold dh
 induction L with
 | nil=>simp at hp
 | cons s L ih=>
  simp only[List.map_cons,List.nodup_cons] at hn;rcases List.mem_cons.mp hp with rfl | hp
  .simp
  .have:s.1.nm≠p.1.nm:=λe=>hn.1 (e ▸ List.mem_map.mpr ⟨p.1,List.mem_map.mpr ⟨p,hp,rfl⟩,rfl⟩);rw[List.find?_cons,decide_eq_false this];exact ih hn.2 hp
theorem gX {L:WL}{x:D}{p:WA×Nat}(h:dh L x=some p):p∈L/\p.1.nm=x:=⟨List.mem_of_find?_eq_some h,by simpa using List.find?_some h⟩
theorem xZ {L:WL}{x:D}(h:dh L x=none):∀p∈L,p.1.nm≠x:=λp hp=>by simpa using List.find?_eq_none.mp h p hp
theorem j8 {L:WL}{a:HA}{B:Nat}{x:D}(ho:aL a (L.map (·.1)) B)(hx:aN x):bX (L.map d4) x=true:=jT (λp hp=>by obtain⟨q,hq,rfl⟩:=List.mem_map.mp hp;exact c9 (ho.wk q.1 (List.mem_map.mpr ⟨q,hq,rfl⟩)).nm) (c9 hx)
theorem xh {n h:Nat}{a:HA}{L:WL}{B:Nat}{p:WA×Nat}{S:ae}(hh:br S h a L)(ho:aL a (L.map (·.1)) B)(hp:p∈L):
 Wp ((ag P (n+2)).m 3 11 [.ref h,p.1.nm] S) (Out S h L { a with ends:=bu a.ends p.1.aJ (.tup [.aj]) } (dP L p.1.nm) (lettersOf p.1.aJ (.tup [.str "no",p.1.nm]))):=by
 have hl:=hh.lt;have hw:=hh.ws p hp;have iz:=hh.lo p hp;have kN:(dP L p.1.nm).Sublist L:=List.filter_sublist;have hk:=ho.wk p.1 (List.mem_map.mpr ⟨p,hp,rfl⟩);have h1:br (S.set (h+7) (.aG ((dP L p.1.nm).map d4))) h a (dP L p.1.nm):=hh.Gd kN;have hw1:=hw.fr (Fr.set (· = h+7) S _ (.aG ((dP L p.1.nm).map d4)) rfl) λi h1 h2=>by omega
 have q0:=hh.o0;have q7:=hh.o7;rw[uQ];apply aH;unfold mE;rfl';refine⟨q7,c9 hk.nm,j8 ho hk.nm,.ref p.2,by rw[lL,gC ho.wn hp];rfl,?_⟩;rw[Cq];have q0':=h1.o0;have w0':=hw1.o0;rfl';refine wp_mono (lS (n:=n) (B:=B) h1 hw1.o1 (by omega) hk.aJ hk.wl (by have:=ho.bl;omega) (Or.inr ⟨_,rfl,rfl⟩)) λv S' o=>?_;exact o.pre (dn (Fr.refl _ _) λ_=>sQ (by omega) (by omega)) λq hq=>Or.inl ⟨q,kN.subset hq,rfl⟩
noncomputable def Apart (p q:WA×Nat):Prop:=p.2+4<=q.2\/q.2+4<=p.2
theorem xl:∀{L:WL},(L.Pairwise λp q=>p.2+4<=q.2\/q.2+4<=p.2)->∀p∈L,∀q∈L,p=q\/Apart p q
 | [],_,p,hp,_,_=>by simp at hp
 | s::L,h,p,hp,q,hq=>by
  rw[List.pairwise_cons] at h;rcases List.mem_cons.mp hp with rfl | hp
  .rcases List.mem_cons.mp hq with rfl | hq
   .exact Or.inl rfl
   .exact Or.inr (h.1 q hq)
  .rcases List.mem_cons.mp hq with e | hq
   .rw[e];exact Or.inr (h.1 p hp).symm
   .exact xl h.2 p hp q hq
noncomputable def bG (L:WL)(x:D)(y:WA):WL:=L.map λq=>if q.1.nm=x then (y,q.2) else q
theorem w6 {L:WL}{x:D}{y:WA}(hy:y.nm=x):(bG L x y).map d4=L.map d4:=by
 unfold bG;rw[List.map_map];apply List.map_congr_left;intro q _;show d4 (if q.1.nm=x then (y,q.2) else q)=d4 q;split
 .rename_i h;simp[d4,hy,h]
 .rfl
theorem lj {L:WL}{x:D}{y:WA}{p:WA×Nat}(hp:p∈bG L x y):∃q∈L,q.2=p.2/\(p=q/\q.1.nm≠x\/p.1=y/\q.1.nm=x):=by
 obtain⟨q,hq,e⟩:=List.mem_map.mp hp;refine⟨q,hq,?_⟩;split at e
 .rename_i h;rw[<-e];exact⟨rfl,Or.inr ⟨rfl,h⟩⟩
 .rename_i h;rw[<-e];exact⟨rfl,Or.inl ⟨rfl,h⟩⟩
theorem br.MB {S S':ae}{h:Nat}{a:HA}{L:WL}{p:WA×Nat}{y:WA}(hh:br S h a L)(hn:((L.map (·.1)).map (·.nm)).Nodup)(hp:p∈L)(hf:Fr (λi=>p.2<=i/\i<p.2+4) S S')(hw:nU S' y p.2)(hy:y.nm=p.1.nm):br S' h a (bG L p.1.nm y):=by
 have hl:=hh.lt;have iz:=hh.lo p hp;have ha:=xl hh.ap;obtain⟨o0,o1,o2,o3,o4,o5,o6,o7,o8,o9,ws,lo,ap⟩:=hh;refine⟨hf.at o0 (by omega),hf.at o1 (by omega),hf.at o2 (by omega),hf.at o3 (by omega),hf.at o4 (by omega),hf.at o5 (by omega),hf.at o6 (by omega),by rw[w6 hy];exact hf.at o7 (by omega),hf.at o8 (by omega),hf.at o9 (by omega),λq hq=>?_,λq hq=>?_,?_⟩
 .obtain⟨q',gD,e,h1 | h1⟩:=lj hq
  .rcases ha p hp q' gD with e2 | e2
   .exact absurd (by rw[<-e2]) h1.2
   .rw[h1.1];refine(ws q' gD).fr hf λi i1 i2=>?_;unfold Apart at e2;omega
  .have:q'=p:=by have f1:=gC hn gD;rw[h1.2,gC hn hp] at f1;exact(Option.some.inj f1).symm
   rw[h1.1,<-e,this];exact hw
 .obtain⟨q',gD,e,_⟩:=lj hq;rw[<-e];exact lo q' gD
 .unfold bG;rw[List.pairwise_map];refine ap.imp λ{u v} h=>?_;have e1:(if u.1.nm=p.1.nm then (y,u.2) else u).2=u.2:=by split<;>rfl
  have e2:(if v.1.nm=p.1.nm then (y,v.2) else v).2=v.2:=by split<;>rfl
  rw[e1,e2];exact h
theorem lb {L:WL}{x:D}{y:WA}:(bG L x y).map (·.1)=(L.map (·.1)).map λz=>if z.nm=x then y else z:=by unfold bG;rw[List.map_map,List.map_map];apply List.map_congr_left;intro q _;show (if q.1.nm=x then (y,q.2) else q).1=if q.1.nm=x then y else q.1;split<;>rfl
theorem mR {L:WL}{x:D}{y:WA}(hy:y.nm=x):((bG L x y).map (·.1)).map (·.nm)=(L.map (·.1)).map (·.nm):=by
 rw[lb,List.map_map];apply List.map_congr_left;intro z _;show (if z.nm=x then y else z).nm=z.nm;split
 .rename_i h;rw[hy,h]
 .rfl
theorem zf {L:WL}(hn:((L.map (·.1)).map (·.nm)).Nodup){p:WA×Nat}{y:WA}(hp:p∈L):(y,p.2)∈bG L p.1.nm y:=List.mem_map.mpr ⟨p,hp,by rw[if_pos rfl]⟩
noncomputable abbrev jS (x:WA)(s:Int):WA:={ x with asked:=x.asked.erase s,gL:=x.gL++[s] }
theorem DQ {L:WL}{x:D}{y:WA}(hy:y.nm=x):dP (bG L x y) x=dP L x:=by
 unfold dP bG
 induction L with
 | nil=>rfl
 | cons q L ih=>
  rw[List.map_cons,List.filter_cons,List.filter_cons,ih]
  by_cases h:q.1.nm=x
  .rw[if_pos h,if_neg (by simp[hy]),if_neg (by simp[h])]
  .rw[if_neg h]
theorem JE {a:HA}{L:WL}{B:Nat}{x:D}{y:WA}(ho:aL a (L.map (·.1)) B)(hy:y.nm=x)(hk:nJ a.ends.length B y):aL a ((bG L x y).map (·.1)) B:=by
 obtain⟨h1,h2,h3,h4,h5,h6,h7,h8,h9,wn,wk,el,pn,pl,ll,bl⟩:=ho;refine⟨h1,h2,h3,h4,h5,h6,h7,h8,h9,?_,λp hp=>?_,el,pn,pl,by rw[lb];simpa using ll,bl⟩
 .have:=mR (L:=L) hy;rw[this];exact wn
 .rw[lb] at hp;obtain⟨z,hz,e⟩:=List.mem_map.mp hp;split at e
  .rw[<-e];exact hk
  .rw[<-e];exact wk z hz
theorem aL.mono {a:HA}{L:List WA}{B B':Nat}(ho:aL a L B)(hb:B<=B')(hB:B'<=100000):aL a L B':=by obtain⟨h1,h2,h3,h4,h5,h6,h7,h8,h9,wn,wk,el,pn,pl,ll,bl⟩:=ho;refine⟨h1,h2,h3,h4,h5,h6,h7,h8,by omega,wn,λp hp=>?_,by omega,pn,by omega,by omega,hB⟩;obtain⟨k1,k2,k3,k4,k5,k6⟩:=wk p hp;exact⟨k1,k2,by omega,by omega,by omega,k6⟩
theorem AR {n h:Nat}{a:HA}{L:WL}{B:Nat}{p:WA×Nat}{s:Int}{S:ae}(hh:br S h a L)(ho:aL a (L.map (·.1)) B)(hp:p∈L)(hs:s∈p.1.asked)(hB:B+1<=100000):
 Wp ((ag P (n+3)).m 3 36 [.ref h,.int s,p.1.nm] S) λv S'=>if (p.1.asked.erase s)=[] then Out S h L { a with ends:=bu a.ends p.1.aJ (.tup [.aj]) } (dP L p.1.nm) (lettersOf p.1.aJ (.tup [.str "no",p.1.nm])) v S' else Out S h L a (bG L p.1.nm (jS p.1 s)) [] v S':=by
 have hl:=hh.lt;have hw:=hh.ws p hp;have iz:=hh.lo p hp;have zo:=hw.lt;have hk:=ho.wk p.1 (List.mem_map.mpr ⟨p,hp,rfl⟩);have q0:=hh.o0;have q7:=hh.o7;obtain⟨w0,w1,w2,w3⟩:=hw;rw[rn];apply aH;unfold kj;rfl';refine oG q7 (j8 ho hk.nm) (by rw[lL,gC ho.wn hp];rfl) ?_;rfl';refine⟨s,rfl,w2,hs,?_⟩;rfl';refine⟨p.1.gL.map .int,by ac_rfl,?_,?_⟩
 .have:=hk.nl;have:=ho.bl;simp[sizeLine];omega
 have hf:Fr (λi=>p.2<=i/\i<p.2+4) S ((S.set (p.2+2) (.lst ((p.1.asked.erase s).map .int))).set (p.2+3) (.lst (p.1.gL.map .int++[.int s]))):=dn (dn (Fr.refl _ _) λ_=>⟨by omega,by omega⟩) λ_=>⟨by omega,by omega⟩;have hW:nU ((S.set (p.2+2) (.lst ((p.1.asked.erase s).map .int))).set (p.2+3) (.lst (p.1.gL.map .int++[.int s]))) (jS p.1 s) p.2:=⟨by ac_rfl,by ac_rfl,by show _=some (O.lst ((p.1.asked.erase s).map .int));ac_rfl,by show _=some (O.lst ((p.1.gL++[s]).map .int));rw[List.map_append];exact dk (by ac_rfl)⟩;generalize hS1:(S.set (p.2+2) (.lst ((p.1.asked.erase s).map .int))).set (p.2+3) (.lst (p.1.gL.map .int++[.int s]))=S1 at hf hW;have h1:br S1 h a (bG L p.1.nm (jS p.1 s)):=hh.MB ho.wn hp hf hW rfl;have hF:Fr (In h L) S S1:=hf.mono λi _ hi=>Or.inr ⟨p,hp,hi.1,hi.2⟩;have hL:∀q∈bG L p.1.nm (jS p.1 s),(∃q'∈L,q'.2=q.2)\/S.length<=q.2:=λq hq=>by obtain⟨q',gD,e,_⟩:=lj hq;exact Or.inl ⟨q',gD,e⟩
 have r0:=h1.o0;have v0:=hW.o0;have v2:=hW.o2;rfl';refine eJ (λhc=>?_) (λhc=>?_)
 .have hc:p.1.asked.erase s=[]:=by simpa[jS] using hc
  rfl';have hk1:nJ a.ends.length (B+1) (jS p.1 s):=by obtain⟨k1,k2,k3,k4,k5,k6⟩:=hk;refine⟨k1,k2,by show p.1.aJ.length<=B+1;omega,by show (p.1.asked.erase s).length<=_;rw[hc];simp,by simp;omega,k6⟩
  have d8:aL a ((bG L p.1.nm (jS p.1 s)).map (·.1)) (B+1):=JE (ho.mono (Nat.le_succ B) hB) rfl hk1;refine wp_mono (xh (n:=n) (p:=(jS p.1 s,p.2)) h1 d8 (zf ho.wn hp)) λv S' o=>?_;have o:=o.pre hF hL;have e:=DQ (L:=L) (x:=p.1.nm) (y:=jS p.1 s) rfl;dsimp only at o e;rw[e] at o;exact Eq.mpr (if_pos hc) o
 .have hc:¬p.1.asked.erase s=[]:=by simpa[jS] using hc
  rfl';exact Eq.mpr (if_neg hc) ⟨_,rfl,hF.1,bt _ _,h1.app,dm hF,hL,h1.fresh (Nat.le_refl _)⟩
noncomputable def jP (l:List (D×Int×Int×Int))(x:D)(now v u:Int):List (D×Int×Int×Int):=if l.any (λr=>decide ((ij r).1 = .tup [x,.int now]))=true then l.map λr=>if (ij r).1 = .tup [x,.int now] then (r.1,r.2.1,v,u) else r else l++[(x,now,v,u)]
theorem NA (l:List (D×Int×Int×Int))(x:D)(now v u:Int):putD (l.map ij) (.tup [x,.int now]) (.tup [.int v,.int u])=(jP l x now v u).map ij:=by
 unfold putD jP;rw[List.any_map];have:((λkv:D×D=>decide (kv.1 = .tup [x,.int now])) ∘ ij)=λr:D×Int×Int×Int=>decide ((ij r).1 = .tup [x,.int now]):=rfl;rw[this];split
 .rw[List.map_map,List.map_map];apply List.map_congr_left;intro r _;show (if (ij r).1 = .tup [x,.int now] then ((ij r).1,D.tup [.int v,.int u]) else ij r)=ij (if (ij r).1 = .tup [x,.int now] then (r.1,r.2.1,v,u) else r);split<;>rfl
 .rw[List.map_append];rfl
noncomputable abbrev i8 (x:D)(v u:Int):D:=.tup [.str "thing",x,.int v,.int u]
noncomputable abbrev BK (x:D):D:=.tup [.str "no",x]
noncomputable abbrev Eg (x:D):D:=.tup [.str "ask",x]
theorem CJ {x:D}{now:Int}(hx:aN x):eE (.tup [x,.int now])=true:=c9 hx
noncomputable def Cc (a:HA)(x:D)(s v u now:Int)(aJ:List D):HA:={ a with kept:=iK a.room a.kept x v u now,aZ:=jP a.aZ x now v u,ends:=bu a.ends (aJ.filter λy=>decide (y ≠ .int s)) (.tup [.int v]) }
theorem uX {n h:Nat}{a:HA}{L:WL}{B:Nat}{p:WA×Nat}{s v u now:Int}{S:ae}(hh:br S h a L)(ho:aL a (L.map (·.1)) B)(hp:p∈L)(v1:0<=v)(v2:v<=999)(u1:0<=u)(w1:0<=now):
 Wp ((ag P (n+6)).m 3 37 [.ref h,.int s,i8 p.1.nm v u,.int now] S) (Out S h L (Cc a p.1.nm s v u now p.1.aJ) (dP L p.1.nm) (lettersOf (p.1.aJ.filter λy=>decide (y ≠ .int s)) (i8 p.1.nm v u))):=by
 have hl:=hh.lt;have hw:=hh.ws p hp;have iz:=hh.lo p hp;have zo:=hw.lt;have hk:=ho.wk p.1 (List.mem_map.mpr ⟨p,hp,rfl⟩);have hb:=ho.bl;have o0:=hh.o0;have o1:=hh.o1;have o2:=hh.o2;rw[mV];apply aH;unfold iW;rfl';refine⟨1,rfl,ak (a:=D.tup [p.1.nm,.int v,.int u]) (S:=S) rfl ?_⟩;refine⟨_,_,rfl,rfl,?_⟩;rfl';refine wp_mono (Ll (n:=n) ⟨o1,o2⟩ ho.kept ho.kl ho.r9 hk.nm v1 v2 u1 w1) λr S1 ⟨er,T1,eS⟩=>?_;subst er eS;have h1:=(hh.kept (iK a.room a.kept p.1.nm v u now)).app (T:=T1);have f1:Fr (λi=>h<=i/\i<h+10) S (S.set (h+1+1) (.aG ((iK a.room a.kept p.1.nm v u now).map kv))++T1):=dm (dn (Fr.refl _ _) λ_=>⟨by omega,by omega⟩);generalize S.set (h+1+1) (.aG ((iK a.room a.kept p.1.nm v u now).map kv))++T1=S1 at h1 f1;have q0:=h1.o0;have q8:=h1.o8;rfl';refine M9 q8 (CJ hk.nm) (by have:=ho.pl;simp[sizeLine];omega) ?_;rw[NA];have h2:=h1.aZ (jP a.aZ p.1.nm now v u);have f2:Fr (λi=>h<=i/\i<h+10) S (S1.set (h+8) (ip ((jP a.aZ p.1.nm now v u).map ij))):=dn f1 λ_=>⟨by omega,by omega⟩;dsimp only at h2;generalize S1.set (h+8) (ip ((jP a.aZ p.1.nm now v u).map ij))=S2 at h2 f2;have q0:=h2.o0;have q7:=h2.o7;rfl';refine⟨q7,c9 hk.nm,j8 ho hk.nm,.ref p.2,by rw[lL,gC ho.wn hp];rfl,?_⟩;rw[Cq];have kN:(dP L p.1.nm).Sublist L:=List.filter_sublist;have h3:=h2.Gd kN;have f3:Fr (λi=>h<=i/\i<h+10) S (S2.set (h+7) (.aG ((dP L p.1.nm).map d4))):=dn f2 λ_=>⟨by omega,by omega⟩;generalize S2.set (h+7) (.aG ((dP L p.1.nm).map d4))=S3 at h3 f3;have hw3:=hw.fr f3 λi i1 i2=>by omega
 have q0:=h3.o0;have w0:=hw3.o0;have w1:=hw3.o1;have l3:=h3.lt;rfl';apply lX;rfl';refine cl w1 (by have:=hk.wl;unfold sizeLine;omega) (λy=>decide (y ≠ .int s)) id (λy hy=>⟨?_,λ_=>rfl⟩) ?_
 .apply bW;rfl';refine wm (lY (oK (hk.aJ y hy)) (by decide)) rfl ?_;rfl';refine⟨?_,rfl⟩;simp
 rw[List.map_id];rfl';refine wp_mono (lS (n:=n+4) (B:=B) (h3.app) (bt _ _) (by omega) (λy hy=>hk.aJ y (List.mem_filter.mp hy).1) (Nat.le_trans (List.length_filter_le _ _) hk.wl) (by omega) (Or.inl ⟨_,_,_,rfl,rfl⟩)) λr S' o=>?_;exact o.pre (dm (f3.mono λi _ hi=>Or.inl hi)) λq hq=>Or.inl ⟨q,kN.subset hq,rfl⟩
theorem nj {chk:ae->Bool}{i:Nat}{t:C Bool}{e:C D}{ρ:RF.Env}{S:ae}{f:D->Bool}{g:D->D}(hc:∀T,chk (S++T)=true):∀(xs acc:List D) (T:ae),(∀x∈xs,∀T,(∃T',t (ρ.set i (some x)) (S++T) = .ok (f x) (S++T'))/\(f x=true->e (ρ.set i (some x)) (S++T) = .ok (g x) (S++T)))->acc.length+xs.length<sizeLine ->
 ∃T',bF chk [i] true t (bL e) ρ xs acc (S++T) = .ok (acc++(xs.filter f).map g) (S++T')
 | [],acc,T,_,_=>⟨T,by unfold bF;rw[if_pos (hc T)];simp⟩
 | x::xs,acc,T,hx,hl=>by
  obtain⟨⟨T1,h1⟩,_⟩:=hx x (List.mem_cons_self ..) T;obtain⟨_,h2⟩:=hx x (List.mem_cons_self ..) T1;rw[List.length_cons] at hl
  by_cases q:f x=true
  .obtain⟨T2,ih⟩:=nj hc xs (acc++[g x]) T1 (λy hy=>hx y (List.mem_cons_of_mem _ hy)) (by rw[List.length_append,List.length_singleton];omega);refine⟨T2,?_⟩;unfold bF;rw[if_pos (hc T)];show (t (ρ.set i (some x)) (S++T)).bind _=_;have:bL e acc (ρ.set i (some x)) (S++T1) = .ok (acc++[g x]) (S++T1):=by unfold bL aB;rw[if_pos (decide_eq_true (by omega)),h2 q,R.bY]
   rw[h1,R.bY,if_pos q,this,R.bY,ih,List.filter_cons,if_pos q];simp
  .obtain⟨T2,ih⟩:=nj hc xs acc T1 (λy hy=>hx y (List.mem_cons_of_mem _ hy)) (by omega);refine⟨T2,?_⟩;unfold bF;rw[if_pos (hc T)];show (t (ρ.set i (some x)) (S++T)).bind _=_;rw[h1,R.bY,if_neg q,ih,List.filter_cons,if_neg q]
noncomputable def CG (S:ae)(ρ:RF.Env)(t:C Bool)(e:C D)(x:D)(k:List D->ae->Prop):Prop:=∃n xs f g,x = .ref n/\S[n]?=some (.lst xs)/\xs.length<sizeLine/\(∀y∈xs,∀T,(∃T',t (some y::ρ) (S++T) = .ok (f y) (S++T'))/\(f y=true->e (some y::ρ) (S++T) = .ok (g y) (S++T)))/\∀T,k ((xs.filter f).map g) T
theorem cg {S:ae}{ρ:RF.Env}{t:C Bool}{e:C D}{n:Nat}{xs:List D}{k:List D->ae->Prop}(h:S[n]?=some (.lst xs))(hl:xs.length<sizeLine)(f:D->Bool)(g:D->D)(he:∀y∈xs,∀T,(∃T',t (some y::ρ) (S++T) = .ok (f y) (S++T'))/\(f y=true->e (some y::ρ) (S++T) = .ok (g y) (S++T)))(q:∀T,k ((xs.filter f).map g) T):CG S ρ t e (.ref n) k:=⟨n,xs,f,g,rfl,h,hl,he,q⟩
theorem Fw {ρ:RF.Env}{S:ae}{c:C D}{t:C Bool}{e:C D}{Q:D->ae->Prop}(h:Wp (c ρ S) λx S1=>CG S1 ρ t e x λys T=>Q (.ref (S1++T).length) ((S1++T)++[.lst ys])):Wp (fG 1 (.dyn c) [0] true t e ρ S) Q:=by refine wp_bind (cJ (by simp[blank,inner]) (wp_bind (wp_mono h λx S1 ⟨n,xs,f,g,e1,h1,hl,he,q⟩=>?_)));subst e1;unfold iS;simp only[h1];obtain⟨T',et⟩:=nj (chk:=e9 (.ref n) xs) (i:=0) (t:=t) (e:=e) (ρ:=inner 1 ρ) (S:=S1) (f:=f) (g:=g) (λT=>decide_eq_true (bf (cG h1))) xs [] [] he (by simpa using hl);rw[List.append_nil] at et;refine(ak et ?_);rw[List.nil_append];exact q T'
theorem B6 (n w:Nat)(now:Int)(S:ae)(hw:w=S.length):(ag P (n+1)).m 2 0 [.ref w,.int now] (S++[.obj 2 []]) = .ok .aj (S++[sN w now,.lst [],.lst [],.lst []]):=by subst hw;rw[xV];apply bW;apply aH;unfold oW;rfl';simp[eg]
structure HW (S:ae)(h:Nat)(a:HA)(L:WL)(x:D)(y:WA)(w:Nat):Prop where
 ha:br S h a L
 wa:nU S y w
 nm:y.nm=x
 wl:h+10<=w
 cs:(y,w)∈L\/((∀p∈L,p.1.nm≠x)/\∀p∈L,p.2+4<=w)
theorem qh {L:WL}{x:D}{y:WA}(h:∀p∈L,p.1.nm≠x):bG L x y=L:=by
 unfold bG;have:L.map (λq=>if q.1.nm=x then (y,q.2) else q)=L.map id:=by apply List.map_congr_left;intro q hq;rw[if_neg (h q hq)];rfl
 rw[this,List.map_id]
theorem HW.upd {S S':ae}{h:Nat}{a:HA}{L:WL}{x:D}{y y':WA}{w:Nat}(hw:HW S h a L x y w)(hn:((L.map (·.1)).map (·.nm)).Nodup)(hf:Fr (λi=>w<=i/\i<w+4) S S')(h':nU S' y' w)(hy:y'.nm=x):HW S' h a (bG L x y') x y' w:=by
 obtain⟨h1,h2,h3,h4,h5⟩:=hw;rcases h5 with h5 | ⟨h5,h6⟩
 .have e:=h1.MB hn h5 hf h' (by rw[hy,<-h3]);have m:=zf hn (y:=y') h5;dsimp only at e m;rw[h3] at e m;exact⟨e,h',hy,h4,Or.inl m⟩
 .rw[qh h5];refine⟨h1.fr hf λi hi=>?_,h',hy,h4,Or.inr ⟨h5,h6⟩⟩;rcases hi with hi | ⟨p,hp,i1,i2⟩
  .omega
  .have:=h6 p hp;omega
theorem HW.app {S T:ae}{h:Nat}{a:HA}{L:WL}{x:D}{y:WA}{w:Nat}(hw:HW S h a L x y w):HW (S++T) h a L x y w:=⟨hw.ha.app,hw.wa.fr (Fr.app no S T) λ_ _ _ h=>h,hw.nm,hw.wl,hw.cs⟩
noncomputable def f7 (L:WL)(x:D)(y:WA)(w:Nat):WL:=if L.any (λp=>decide (p.1.nm=x))=true then L else L++[(y,w)]
theorem HW.put {S:ae}{h:Nat}{a:HA}{L:WL}{x:D}{y:WA}{w:Nat}(hw:HW S h a L x y w)(hn:((L.map (·.1)).map (·.nm)).Nodup):putD (L.map d4) x (.ref w)=(f7 L x y w).map d4/\br (S.set (h+7) (.aG ((f7 L x y w).map d4))) h a (f7 L x y w):=by
 obtain⟨h1,h2,h3,h4,h5⟩:=hw;have hl:=h1.lt;unfold f7;rcases h5 with h5 | ⟨h5,h6⟩
 .have ha:(L.any λp=>decide (p.1.nm=x))=true:=List.any_eq_true.mpr ⟨_,h5,decide_eq_true h3⟩;rw[if_pos ha];refine⟨?_,?_⟩
  .unfold putD;rw[if_pos (by rw[List.any_map];exact ha),List.map_map];apply List.map_congr_left;intro q hq;show (if q.1.nm=x then (q.1.nm,D.ref w) else d4 q)=d4 q;split
   .rename_i e;have f1:=gC hn hq;have f2:=gC hn h5;dsimp only at f2;rw[e] at f1;rw[h3,f1] at f2;cases f2;rfl
   .rfl
  .rw[<-set_same h1.o7];exact h1
 .have ha:¬(L.any λp=>decide (p.1.nm=x))=true:=by rw[List.any_eq_true];rintro⟨p,hp,e⟩;exact h5 p hp (by simpa using e)
  rw[if_neg ha];refine⟨?_,?_⟩
  .rw[sF,List.map_append]
   .simp[d4,h3]
   .intro p hp;obtain⟨q,hq,rfl⟩:=List.mem_map.mp hp;exact h5 q hq
  .obtain⟨o0,o1,o2,o3,o4,o5,o6,o7,o8,o9,ws,lo,ap⟩:=h1;have hf:Fr (· = h+7) S (S.set (h+7) (.aG ((L++[(y,w)]).map d4))):=Fr.set _ _ _ _ rfl;refine⟨by ac_rfl,by ac_rfl,by ac_rfl,by ac_rfl,by ac_rfl,by ac_rfl,by ac_rfl,by ac_rfl,by ac_rfl,by ac_rfl,λp hp=>?_,λp hp=>?_,?_⟩
   .rcases List.mem_append.mp hp with hp | hp
    .exact(ws p hp).fr hf λi i1 i2=>by have:=lo p hp;omega
    .rw[List.mem_singleton.mp hp];exact h2.fr hf λi i1 i2=>by omega
   .rcases List.mem_append.mp hp with hp | hp
    .exact lo p hp
    .rw[List.mem_singleton.mp hp];exact h4
   .rw[List.pairwise_append];refine⟨ap,by simp,λp hp q hq=>?_⟩;rw[List.mem_singleton.mp hq];exact Or.inl (h6 p hp)
noncomputable def aT (aJ:List D)(k:D):List D:=if k∈aJ then aJ else aJ++[k]
noncomputable def iO (t:List Int)(y:WA):List Int:=t.filter λs=>!decide (s∈y.asked)&&(!decide (s∈y.gL) && !decide (y.aJ=[.int s]))
noncomputable def bx (t:List Int)(k:D)(y:WA):WA:={ y with aJ:=aT y.aJ k,asked:=y.asked++iO t { y with aJ:=aT y.aJ k } }
noncomputable def kY (cl:Calls):List CS:=[(bA (aq (aC .NotIn (aa 1) (aE (aa 5) 7))) (ah [(aU (aF T.aS cl.m (some 4) (some .append) (aE (aa 5) 7) [(aa 1)]))]) (ah [])),(a5 6 (fG 1 (.dyn (aF T.aS cl.m (some 38) none (aa 0) [(aa 2)])) [0] true (eA (aq (aC .NotIn (aa 0) (aE (aa 6) 6))) (eA (aq (aC .NotIn (aa 0) (aE (aa 6) 22))) (aq (aC .NotEq (aE (aa 6) 7) (bT [(aa 0)]))))) (aa 0))),(aU (aF T.aS cl.m (some 13) (some .extend) (aE (aa 5) 6) [(aa 6)])),(bA (eK (dj (aE (aa 5) 6))) (ah [(retS (aF T.aS cl.m (some 35) none (aa 0) [(bT [(aa 1)]),(ba [(cE (.str "no")),(aa 2)])]))]) (ah [])),(fJ (aE (aa 0) 39) (aa 2) (aa 5)),(retS (fG 1 (.dyn (aa 6)) [0] true always (ba [(aa 0),(ba [(cE (.str "ask")),(aa 3)])])))]
noncomputable def As (x:D)(l:List Int):List D:=l.map λs=>.tup [.int s,Eg x]
theorem OC {h:Nat}{L:WL}{x:D}{y:WA}{i:Nat}:In h (bG L x y) i->In h L i:=by
 rintro (hi | ⟨p,hp,i1,i2⟩)
 .exact Or.inl hi
 .obtain⟨q,hq,e,_⟩:=lj hp;exact Or.inr ⟨q,hq,by omega,by omega⟩
theorem iE {l:List Int}{n:Nat}:∀y∈l.map D.int,cf (n+1) y=true:=λy hy=>by obtain⟨i,_,rfl⟩:=List.mem_map.mp hy;rfl
noncomputable def Ae (h:Nat)(a:HA)(L:WL)(x k:D)(y:WA)(w:Nat)(t:List Int)(S:ae)(v:D)(S':ae):Prop:=
 ∃r,v = .ref r/\S.length<=r/\Fr (λi=>In h L i\/(w<=i/\i<w+4)) S S' /\
  ((bx t k y).asked=[]->(S'[r]?=some (.lst (lettersOf [k] (BK x)))/\br S' h { a with ends:=bu a.ends [k] (.tup [.aj]) } (bG L x (bx t k y))/\¬In h (bG L x (bx t k y)) r)) /\
  (¬(bx t k y).asked=[]->(S'[r]?=some (.lst (As x (iO t { y with aJ:=aT y.aJ k })))/\br S' h a (f7 (bG L x (bx t k y)) x (bx t k y) w)/\¬In h (f7 (bG L x (bx t k y)) x (bx t k y) w) r))
theorem yP {n h:Nat}{a:HA}{L:WL}{B:Nat}{x k:D}{y:WA}{w:Nat}{now:Int}{S:ae}{r4:Option D}(hw:HW S h a L x y w)(ho:aL a (L.map (·.1)) B)(hx:aN x)(hk:d9 a.ends.length k)(hy:∀z∈y.aJ,d9 a.ends.length z)(b1:y.aJ.length<=B)(b2:y.asked.length<=8*B)(DJ:(cW a x).length<=8):
 Wf (ah (kY (ag P (n+6))) [some (.ref h),some k,some x,some (.int now),r4,some (.ref w),none] S) { nx:=λ_ _=>False,rt:=Ae h a L x k y w (cW a x) S }:=by
 have hb:=ho.bl;have hl:=hw.ha.lt;have zo:=hw.wa.lt;have hlo:=hw.wl;generalize ht:cW a x=t at DJ;have h1:HW (S.set (w+1) (.lst (aT y.aJ k))) h a (bG L x { y with aJ:=aT y.aJ k }) x { y with aJ:=aT y.aJ k } w:=by obtain⟨w0,w1,w2,w3⟩:=hw.wa;exact hw.upd ho.wn (dn (Fr.refl _ _) λ_=>⟨by omega,by omega⟩) ⟨by ac_rfl,by ac_rfl,by ac_rfl,by ac_rfl⟩ hw.nm
 have f1:Fr (λi=>In h L i\/(w<=i/\i<w+4)) S (S.set (w+1) (.lst (aT y.aJ k))):=dn (Fr.refl _ _) λ_=>Or.inr ⟨by omega,by omega⟩;unfold kY;apply aQ
 suffices hs:Wf (ah ((kY (ag P (n+6))).drop 1) [some (.ref h),some k,some x,some (.int now),r4,some (.ref w),none] (S.set (w+1) (.lst (aT y.aJ k)))) { nx:=λ_ _=>False,rt:=Ae h a L x k y w t S } by
  have w0:=hw.wa.o0;have w1:=hw.wa.o1;apply f6;rfl';refine lK w1 (oK hk) (λz hz=>oK (hy z hz)) ?_;rfl';refine eJ (λhc=>?_) (λhc=>?_)
  .apply bH;have e:aT y.aJ k=y.aJ:=if_pos hc;rw[e,<-set_same w1] at hs;exact hs
  .have e:aT y.aJ k=y.aJ++[k]:=if_neg hc;rw[e] at hs;apply aQ;apply jC;rfl';refine⟨_,w1,by unfold sizeLine;omega,?_⟩;exact hs
 have n1:(((bG L x { y with aJ:=aT y.aJ k }).map (·.1)).map (·.nm)).Nodup:=by have:=mR (L:=L) (x:=x) (y:={ y with aJ:=aT y.aJ k }) hw.nm;rw[this];exact ho.wn
 have wb:(aT y.aJ k).length<=B+1:=by
  unfold aT;split
  .omega
  .simp;omega
 have wk:∀z∈aT y.aJ k,d9 a.ends.length z:=by
  intro z hz;unfold aT at hz;split at hz
  .exact hy z hz
  .rcases List.mem_append.mp hz with hz | hz
   .exact hy z hz
   .rw[List.mem_singleton.mp hz];exact hk
 have e2:bG (bG L x { y with aJ:=aT y.aJ k }) x (bx t k y)=bG L x (bx t k y):=by
  unfold bG;rw[List.map_map];apply List.map_congr_left;intro q _;show (if (if q.1.nm=x then ({ y with aJ:=aT y.aJ k },q.2) else q).1.nm=x then (bx t k y,(if q.1.nm=x then ({ y with aJ:=aT y.aJ k },q.2) else q).2) else (if q.1.nm=x then ({ y with aJ:=aT y.aJ k },q.2) else q))=_
  by_cases h:q.1.nm=x
  .rw[if_pos h,if_pos hw.nm,if_pos h]
  .rw[if_neg h,if_neg h]
 generalize hS1:S.set (w+1) (.lst (aT y.aJ k))=S1 at h1 f1;have l1:S1.length=S.length:=by rw[<-hS1];simp
 show Wf (ah [_,_,_,_,_] _ _) _;apply aQ;apply gy;apply Fw;have q0:=h1.ha.o0;rfl';refine ak (BL (n:=n) h1.ha ho.held hx) ?_;rw[ht];have h2:=h1.app (T:=[.lst ((dB a.held x).map .int),.lst (t.map .int)]);have f2:Fr (λi=>In h L i\/(w<=i/\i<w+4)) S (S1++[.lst ((dB a.held x).map .int),.lst (t.map .int)]):=dm f1;have g2:(S1++[.lst ((dB a.held x).map .int),.lst (t.map .int)])[S1.length+1]?=some (.lst (t.map .int)):=pY _ 1 _;have l2:(S1++[O.lst ((dB a.held x).map .int),.lst (t.map .int)]).length=S1.length+2:=by simp
 generalize S1++[.lst ((dB a.held x).map .int),.lst (t.map .int)]=S2 at h2 f2 g2 l2;obtain⟨w0,w1,w2,w3⟩:=h2.wa;dsimp only at w1 w2 w3;refine cg g2 (by simp[sizeLine];omega) (λz=>match z with | .int s=>(!decide (s∈y.asked)&&(!decide (s∈y.gL) && !decide (aT y.aJ k=[.int s]))) | _=>false) id (λz hz T=>?_) (λT=>?_)
 .obtain⟨s,hs,rfl⟩:=List.mem_map.mp hz;refine⟨?_,λ_=>rfl⟩
  suffices hz:Wp (eA (aq (aC .NotIn (aa 0) (aE (aa 6) 6))) (eA (aq (aC .NotIn (aa 0) (aE (aa 6) 22))) (aq (aC .NotEq (aE (aa 6) 7) (bT [(aa 0)])))) [some (.int s),some (.ref h),some k,some x,some (.int now),r4,some (.ref w),none] (S2++T)) λb S'=>b=(!decide (s∈y.asked)&&(!decide (s∈y.gL) && !decide (aT y.aJ k=[.int s])))/\∃T',S'=S2++T' by obtain⟨b,S',e,rfl,T',rfl⟩:=vg hz;exact⟨T',e⟩
  have v0:=cG (T:=T) w0;have v1:=cG (T:=T) w1;have v2:=cG (T:=T) w2;have v3:=cG (T:=T) w3;rfl';refine lK v2 rfl iE ?_;rfl';refine eJ (λhc=>?_) (λhc=>?_)
  .exact⟨by rw[decide_eq_true (gh.mp hc)];rfl,_,rfl⟩
  rw[decide_eq_false λe=>hc (gh.mpr e)];rfl';refine lK v3 rfl iE ?_;rfl';refine eJ (λhc=>?_) (λhc=>?_)
  .exact⟨by rw[decide_eq_true (gh.mp hc)];rfl,_,rfl⟩
  rw[decide_eq_false λe=>hc (gh.mpr e)];rfl';refine Pa (cG v1) (bt _ _) (λz hz=>lY (oK (wk z hz)) (by decide)) (λz hz=>by rw[List.mem_singleton.mp hz];rfl) ?_;rfl';exact⟨rfl,T++[.lst [.int s]],by simp⟩
 generalize hfr:iO t { y with aJ:=aT y.aJ k }=fr;have ey:((t.map D.int).filter λz=>match z with | .int s=>(!decide (s∈y.asked)&&(!decide (s∈y.gL) && !decide (aT y.aJ k=[.int s]))) | _=>false).map id=fr.map D.int:=by rw[List.map_id,List.filter_map,<-hfr];rfl
 have frl:fr.length<=8:=by rw[<-hfr];exact Nat.le_trans (List.length_filter_le _ _) DJ
 have hj:bx t k y={ y with aJ:=aT y.aJ k,asked:=y.asked++fr }:=by rw[<-hfr];rfl
 rw[ey];have h3:=(h2.app (T:=T)).app (T:=[.lst (fr.map .int)]);have f3:Fr (λi=>In h L i\/(w<=i/\i<w+4)) S (S2++T++[.lst (fr.map .int)]):=dm (dm f2);have g3:(S2++T++[.lst (fr.map .int)])[(S2++T).length]?=some (.lst (fr.map .int)):=bt _ _;have l3:S2.length<=(S2++T).length:=by simp
 generalize (S2++T).length=rf at g3 l3;generalize S2++T++[.lst (fr.map .int)]=S3 at h3 f3 g3;clear w0 w1 w2 w3 g2;have hl3:=h3.ha.lt;have hw3:=h3.wa.lt;obtain⟨w0,w1,w2,w3⟩:=h3.wa;dsimp only at w1 w2 w3;show Wf (ah [_,_,_,_] [some (.ref h),some k,some x,some (.int now),r4,some (.ref w),some (.ref rf)] S3) _;apply aQ;apply jC;rfl';refine⟨rf,_,rfl,w2,g3,by simp[sizeLine];omega,?_⟩;have h4:HW (S3.set (w+2) (.lst (y.asked.map .int++fr.map .int))) h a (bG L x (bx t k y)) x (bx t k y) w:=by have:=h3.upd (y':=bx t k y) (S':=S3.set (w+2) (.lst (y.asked.map .int++fr.map .int))) n1 (dn (Fr.refl _ _) λ_=>⟨by omega,by omega⟩) (by rw[hj];exact⟨by ac_rfl,by ac_rfl,by show _=some (O.lst ((y.asked++fr).map .int));rw[List.map_append];exact dk w2,by ac_rfl⟩) hw.nm;rw[e2] at this;exact this
 have f4:Fr (λi=>In h L i\/(w<=i/\i<w+4)) S (S3.set (w+2) (.lst (y.asked.map .int++fr.map .int))):=dn f3 λ_=>Or.inr ⟨by omega,by omega⟩;have g4:(S3.set (w+2) (.lst (y.asked.map .int++fr.map .int)))[rf]?=some (.lst (fr.map .int)):=gH g3 (by omega);generalize S3.set (w+2) (.lst (y.asked.map .int++fr.map .int))=S4 at h4 f4 g4;have hl4:=h4.ha.lt;have q0:=h4.ha.o0;have q7:=h4.ha.o7;have w0:=h4.wa.o0;have w2:=h4.wa.o2;have hSS:S.length<=S4.length:=f4.1;rfl';refine eJ (λhc=>?_) (λhc=>?_)
 .have hc:(bx t k y).asked=[]:=by simpa using hc
  rfl';refine wp_mono (lS (n:=n+5) (B:=1) h4.ha.app (bt _ _) (by omega) (λz hz=>by rw[List.mem_singleton.mp hz];exact hk) (by simp) (by omega) (Or.inr ⟨_,rfl,rfl⟩)) λv S' ⟨r,e,r1,r2,r3,r4,r5,r6⟩=>?_;subst e;rw[List.length_append] at r1;refine⟨r,rfl,by omega,(dm f4).trans r4 λi _ hi=>Or.inl (OC hi),λ_=>⟨r2,r3,r6⟩,λhn=>absurd hc hn⟩
 .have hc:¬(bx t k y).asked=[]:=by simpa using hc
  have n4:(((bG L x (bx t k y)).map (·.1)).map (·.nm)).Nodup:=by have:=mR (L:=L) (x:=x) (y:=bx t k y) hw.nm;rw[this];exact ho.wn
  obtain⟨ep,h5⟩:=h4.put n4;rfl';refine rQ q7 (km hx) (by rw[w6 (y:=bx t k y) hw.nm];exact j8 ho hx) (by rw[w6 (y:=bx t k y) hw.nm];have:=ho.ll;simp[sizeLine] at this ⊢;omega) ?_;rw[ep];have f5:Fr (λi=>In h L i\/(w<=i/\i<w+4)) S (S4.set (h+7) (.aG ((f7 (bG L x (bx t k y)) x (bx t k y) w).map d4))):=dn f4 λ_=>Or.inl (sQ (by omega) (by omega));have g5:(S4.set (h+7) (.aG ((f7 (bG L x (bx t k y)) x (bx t k y) w).map d4)))[rf]?=some (.lst (fr.map .int)):=gH g4 (by omega);generalize S4.set (h+7) (.aG ((f7 (bG L x (bx t k y)) x (bx t k y) w).map d4))=S5 at h5 f5 g5;apply aQ;apply k8;apply lX;rfl';refine cl g5 (by simp[sizeLine];omega) (λ_=>true) (λz=>.tup [z,Eg x]) (λz hz=>⟨rfl,λ_=>rfl⟩) ?_;refine⟨_,rfl,f5.1,dm f5,λhn=>absurd hn hc,λ_=>⟨?_,h5.app,h5.fresh (Nat.le_refl _)⟩⟩;rw[bt,hfr,List.filter_eq_self.mpr (by simp),List.map_map];rfl
noncomputable def waitOf (ws:List WA)(x:D)(now:Int):WA:=(ws.find? λy=>decide (y.nm=x)).getD ⟨x,now,[],[],[]⟩
noncomputable def iM (ws:List WA)(x:D)(y:WA):List WA:=if ws.any (λz=>decide (z.nm=x))=true then ws.map λz=>if z.nm=x then y else z else ws++[y]
noncomputable def hX (a:HA)(ws:List WA)(k x:D)(now:Int):HA×List WA×List D:=match iX a x now with
 | some (v,u)=>({ a with kept:=cy a x now,ends:=bu a.ends [k] (.tup [.int v]) },ws,lettersOf [k] (i8 x v u))
 | none=>if (bx (cW a x) k (waitOf ws x now)).asked=[] then ({ a with kept:=cy a x now,ends:=bu a.ends [k] (.tup [.aj]) },ws,lettersOf [k] (BK x))
  else ({ a with kept:=cy a x now },iM ws x (bx (cW a x) k (waitOf ws x now)),As x (iO (cW a x) { waitOf ws x now with aJ:=aT (waitOf ws x now).aJ k }))
theorem BQ {L:WL}{x:D}{now:Int}:waitOf (L.map (·.1)) x now=((dh L x).map (·.1)).getD ⟨x,now,[],[],[]⟩:=by unfold waitOf dh;rw[List.find?_map];rfl
theorem vD {L:WL}{x:D}{y:WA}{w:Nat}(hy:y.nm=x):(f7 (bG L x y) x y w).map (·.1)=iM (L.map (·.1)) x y:=by
 have ha:(bG L x y).any (λp=>decide (p.1.nm=x))=(L.map (·.1)).any λz=>decide (z.nm=x):=by
  unfold bG;rw[List.any_map,List.any_map]
  congr 1
  funext q
  show decide ((if q.1.nm=x then (y,q.2) else q).1.nm=x)=decide (q.1.nm=x)
  by_cases h:q.1.nm=x
  .rw[if_pos h];simp[hy,h]
  .rw[if_neg h]
 unfold f7 iM;rw[ha];split
 .exact lb
 .rename_i h;have hn:∀p∈L,p.1.nm≠x:=λp hp e=>h (List.any_eq_true.mpr ⟨p.1,List.mem_map.mpr ⟨p,hp,rfl⟩,decide_eq_true e⟩);rw[qh hn];simp
theorem sd {a:HA}{x:D}(h:g7 a.held):(cW a x).length<=8:=by
 refine Nat.le_trans (List.length_filter_le _ _) ?_;unfold dB;cases hw:eY a.held (partsOf x) (partsOf x).length with
 | none=>simp
 | some p=>
  have so:∀y s,f9 a.held y=some s->s.length<=8:=by
   intro y s e;unfold f9 at e;cases hf:a.held.find? λp=>decide (p.1=y) with
   | none=>simp[hf] at e
   | some q=>rw[hf] at e;have:=(h q (List.mem_of_find?_eq_some hf)).2.2.1;simp at e;rw[<-e];exact this
  have:∀m,eY a.held (partsOf x) m=some p->p.2.length<=8:=by
   intro m
   induction m with
   | zero=>
    intro e;simp only[eY] at e;cases hk:f9 a.held (.tup ((partsOf x).take 0)) with
    | none=>rw[hk] at e;cases e
    | some s=>rw[hk] at e;simp only[Option.map_some,Option.some.injEq] at e;rw[<-e];exact so _ _ hk
   | succ m ih=>
    intro e;simp only[eY] at e;cases hk:f9 a.held (.tup ((partsOf x).take (m+1))) with
    | none=>rw[hk] at e;exact ih e
    | some s=>rw[hk] at e;simp at e;rw[<-e];exact so _ _ hk
  exact this _ hw
theorem w9 {h:Nat}{a:HA}{L:WL}{x k:D}{y:WA}{w:Nat}{t:List Int}{S S2:ae}{v:D}{S':ae}(hw:HW S2 h a L x y w)(hf:Fr (In h L) S S2)(hc:(y,w)∈L\/((∀p∈L,p.1.nm≠x)/\S.length<=w))(hA:∀p∈L,p.1.asked≠[])(ht:Ae h a L x k y w t S2 v S'):
 ((bx t k y).asked=[]->Out S h L { a with ends:=bu a.ends [k] (.tup [.aj]) } L (lettersOf [k] (BK x)) v S') /\
 (¬(bx t k y).asked=[]->Out S h L a (f7 (bG L x (bx t k y)) x (bx t k y) w) (As x (iO t { y with aJ:=aT y.aJ k })) v S'):=by
 obtain⟨r,e,r1,r2,r3,r4⟩:=ht;have hF:Fr (In h L) S S':=hf.trans r2 λi hi kc=>by
  rcases kc with kc | kc
  .exact kc
  .rcases hc with hc | ⟨_,hc⟩
   .exact Or.inr ⟨_,hc,kc.1,kc.2⟩
   .omega
 refine⟨λhz=>?_,λhz=>?_⟩
 .obtain⟨s1,s2,s3⟩:=r3 hz;have hn:∀p∈L,p.1.nm≠x:=by
   rcases hc with hc | ⟨hc,_⟩
   .have:=hA _ hc;have hz:y.asked++iO t { y with aJ:=aT y.aJ k }=[]:=hz;exact absurd (List.append_eq_nil_iff.mp hz).1 this
   .exact hc
  rw[qh hn] at s2 s3;exact⟨r,e,Nat.le_trans hf.1 r1,s1,s2,hF,λp hp=>Or.inl ⟨p,hp,rfl⟩,s3⟩
 .obtain⟨s1,s2,s3⟩:=r4 hz;refine⟨r,e,Nat.le_trans hf.1 r1,s1,s2,hF,λp hp=>?_,s3⟩;have:p∈bG L x (bx t k y)\/(p.2=w/\¬(bG L x (bx t k y)).any (λp=>decide (p.1.nm=x))=true):=by
   unfold f7 at hp;split at hp
   .exact Or.inl hp
   .rename_i hq;rcases List.mem_append.mp hp with hp | hp
    .exact Or.inl hp
    .rw[List.mem_singleton.mp hp];exact Or.inr ⟨rfl,hq⟩
  rcases this with hp | ⟨e,hq⟩
  .obtain⟨q,hq,e,_⟩:=lj hp;exact Or.inl ⟨q,hq,e⟩
  .rw[e];rcases hc with hc | ⟨_,hc⟩
   .exact Or.inl ⟨_,hc,rfl⟩
   .exact Or.inr hc
theorem qo {rows:List Row}{x:D}{now:Int}{r:Row}(h:gK rows x now=some r):r∈rows/\r.1=x/\now<r.2.2:=by refine⟨List.mem_of_find?_eq_some h,?_⟩;have:=List.find?_some h;simpa using this
theorem I9 {rows:List Row}{x:D}{now:Int}(h:c8 rows):c8 (eU rows x now)/\(eU rows x now).length<=rows.length:=by
 unfold eU;cases hr:gK rows x now with
 | none=>exact⟨h,Nat.le_refl _⟩
 | some r=>
  obtain⟨h1,h2,_⟩:=qo hr;refine⟨xb (j6 h (d6 _ _)) (λs hs=>by rw[h2];exact kT rows x s hs) (h.2 r h1),?_⟩;have:(bp rows x).length<rows.length:=by unfold bp;rw[List.length_filter_lt_length_iff_exists];exact⟨r,h1,by simp[h2]⟩
  rw[List.length_append,List.length_singleton];exact this
theorem aL.found {a:HA}{ws:List WA}{B:Nat}(ho:aL a ws B)(x:D)(now:Int):aL { a with kept:=cy a x now } ws B:=by
 have hk:c8 (cy a x now)/\(cy a x now).length<=a.kept.length:=by
  unfold cy;cases a.things.find? λr=>decide (r.1=x) with
  | some _=>exact⟨ho.kept,Nat.le_refl _⟩
  | none=>exact I9 ho.kept
 obtain⟨h1,h2,h3,h4,h5,h6,h7,h8,h9,wn,wk,el,pn,pl,ll,bl⟩:=ho;exact⟨h1,h2,h3,hk.1,by have:=hk.2;show ((cy a x now).length:Int)<=a.room;omega,h6,h7,h8,h9,wn,wk,el,pn,pl,ll,bl⟩
theorem aL.ends {a:HA}{ws:List WA}{B:Nat}(ho:aL a ws B)(l:List D)(hl:l.length=a.ends.length):aL { a with ends:=l } ws B:=by obtain⟨h1,h2,h3,h4,h5,h6,h7,h8,h9,wn,wk,el,pn,pl,ll,bl⟩:=ho;exact⟨h1,h2,h3,h4,h5,h6,h7,h8,h9,wn,by show ∀p∈ws,nJ l.length B p;rw[hl];exact wk,by show l.length<=B;omega,pn,pl,ll,bl⟩
theorem aL.ws {a:HA}{ws zB:List WA}{B:Nat}(ho:aL a ws B)(hn:(zB.map λp=>p.nm).Nodup)(hk:∀p∈zB,nJ a.ends.length B p)(hl:zB.length<=B):aL a zB B:=by obtain⟨h1,h2,h3,h4,h5,h6,h7,h8,h9,wn,wk,el,pn,pl,ll,bl⟩:=ho;exact⟨h1,h2,h3,h4,h5,h6,h7,h8,h9,hn,hk,el,pn,pl,hl,bl⟩
theorem y7 {ws:List WA}{x:D}{now:Int}:(waitOf ws x now).nm=x/\(waitOf ws x now∈ws\/((∀z∈ws,z.nm≠x)/\waitOf ws x now=⟨x,now,[],[],[]⟩)):=by
 unfold waitOf;cases hf:ws.find? λy=>decide (y.nm=x) with
 | none=>exact⟨rfl,Or.inr ⟨λz hz=>by simpa using List.find?_eq_none.mp hf z hz,rfl⟩⟩
 | some y=>exact⟨by simpa using List.find?_some hf,Or.inl (List.mem_of_find?_eq_some hf)⟩
theorem Jz {m B:Nat}{x k:D}{y:WA}{t:List Int}(hy:nJ m B y\/(aN y.nm/\y.aJ=[]/\y.asked=[]/\y.gL=[]))(hk:d9 m k)(ht:t.length<=8):nJ m (B+1) (bx t k y):=by
 have hy':nJ m B y:=by
  rcases hy with hy | ⟨h1,h2,h3,h4⟩
  .exact hy
  .exact⟨h1,by simp[h2],by simp[h2],by simp[h3],by simp[h4],by simp[h2]⟩
 obtain⟨k1,k2,k3,k4,k5,k6⟩:=hy';have hf:(iO t { y with aJ:=aT y.aJ k }).length<=8:=Nat.le_trans (List.length_filter_le _ _) ht;refine⟨k1,λz hz=>?_,?_,?_,by show y.gL.length<=B+1;omega,?_⟩
 .have hz:z∈aT y.aJ k:=hz;unfold aT at hz;split at hz
  .exact k2 z hz
  .rcases List.mem_append.mp hz with hz | hz
   .exact k2 z hz
   .rw[List.mem_singleton.mp hz];exact hk
 .show (aT y.aJ k).length<=B+1;unfold aT;split
  .omega
  .simp;omega
 .show (y.asked++_).length<=_;rw[List.length_append];omega
 .show (aT y.aJ k).Nodup;unfold aT;split
  .exact k6
  .rename_i h;rw[List.nodup_append];refine⟨k6,by simp,λa ha b hb=>?_⟩;rw[List.mem_singleton.mp hb];exact λe=>h (e ▸ ha)
theorem Bb {ws:List WA}{x:D}{y:WA}(hy:y.nm=x)(hn:(ws.map λp=>p.nm).Nodup):((iM ws x y).map λp=>p.nm).Nodup:=by
 unfold iM;split
 .rw[List.map_map];have:ws.map ((λp:WA=>p.nm) ∘ λz=>if z.nm=x then y else z)=ws.map λp=>p.nm:=by
   apply List.map_congr_left;intro z _;show (if z.nm=x then y else z).nm=z.nm;split
   .rename_i h;rw[hy,h]
   .rfl
  rw[this];exact hn
 .rename_i h;rw[List.map_append,List.nodup_append];refine⟨hn,by simp,λa ha b hb=>?_⟩;obtain⟨z,hz,rfl⟩:=List.mem_map.mp ha;have:b=x:=by simpa[hy] using hb
  rw[this];exact λe=>h (List.any_eq_true.mpr ⟨z,hz,decide_eq_true e⟩)
theorem lJ {ws:List WA}{x:D}{y z:WA}(hz:z∈iM ws x y):z=y\/z∈ws:=by
 unfold iM at hz;split at hz
 .obtain⟨q,hq,e⟩:=List.mem_map.mp hz;split at e
  .exact Or.inl e.symm
  .rw[<-e];exact Or.inr hq
 .rcases List.mem_append.mp hz with hz | hz
  .exact Or.inr hz
  .exact Or.inl (List.mem_singleton.mp hz)
theorem EI {ws:List WA}{x:D}{y:WA}:(iM ws x y).length<=ws.length+1:=by unfold iM;split<;>simp
theorem yS {a:HA}{ws:List WA}{B:Nat}{x k:D}{now:Int}(ho:aL a ws B)(hB:B+1<=100000)(hx:aN x)(hk:d9 a.ends.length k):aL (hX a ws k x now).1 (hX a ws k x now).2.1 (B+1):=by
 have d8:=(ho.found x now).mono (Nat.le_succ B) hB;unfold hX;cases iX a x now with
 | some p=>exact d8.ends _ (d5 _ _ _)
 | none=>
  dsimp only;split
  .exact d8.ends _ (d5 _ _ _)
  .obtain⟨e,hc⟩:=y7 (ws:=ws) (x:=x) (now:=now);refine d8.ws (Bb e ho.wn) (λz hz=>?_) (Nat.le_trans EI (by have:=ho.ll;omega));rcases lJ hz with rfl | hz
   .refine Jz (x:=x) ?_ hk (sd ho.held);rcases hc with hc | ⟨_,hc⟩
    .exact Or.inl (ho.wk _ hc)
    .rw[hc];exact Or.inr ⟨hx,rfl,rfl,rfl⟩
   .exact d8.wk z hz
theorem pE {n h:Nat}{a:HA}{L:WL}{B:Nat}{x k:D}{now:Int}{S:ae}(hh:br S h a L)(ho:aL a (L.map (·.1)) B)(hA:∀p∈L,p.1.asked≠[])(hx:aN x)(hk:d9 a.ends.length k)(hw:0<=now):
 Wp ((ag P (n+7)).m 3 3 [.ref h,k,x,.int now] S) λv S'=>∃L',L'.map (·.1)=(hX a (L.map (·.1)) k x now).2.1/\Out S h L (hX a (L.map (·.1)) k x now).1 L' (hX a (L.map (·.1)) k x now).2.2 v S':=by
 have hl:=hh.lt;have hb:=ho.bl;have o0:=hh.o0;rw[p5];apply aH;unfold jZ;rfl';refine ak (FW (n:=n+1) hh ho hx hw) ?_;have h1:=hh.kept (cy a x now);have f1:Fr (In h L) S (S.set (h+1+1) (.aG ((cy a x now).map kv))):=dn (Fr.refl _ _) λ_=>sQ (by omega) (by omega);generalize S.set (h+1+1) (.aG ((cy a x now).map kv))=S1 at h1 f1;have l1:=h1.lt;have q0:=h1.o0;have q7:=h1.o7;unfold hX;cases hr:iX a x now with
 | some p=>obtain⟨v,u⟩:=p;show Wf (ah (_::_) [some (.ref h),some k,some x,some (.int now),some (pairD (v,u)),none,none] S1) _;unfold pairD;apply aQ;apply f6;rfl';refine iN (λe=>by cases e) ?_;rfl';refine wp_mono (lS (n:=n+5) (B:=1) h1.app (bt _ _) (by omega) (λz hz=>by rw[List.mem_singleton.mp hz];exact hk) (by simp) (by omega) (Or.inl ⟨_,_,_,rfl,rfl⟩)) λv S' o=>?_;exact⟨L,rfl,o.pre (dm f1) λq hq=>Or.inl ⟨q,hq,rfl⟩⟩
 | none=>
  show Wf (ah (_::_::kY (ag P (n+6))) [some (.ref h),some k,some x,some (.int now),some .aj,none,none] S1) _;apply aQ;apply f6;rfl';refine iF rfl ?_;apply bH;show Wf (ah (_::kY (ag P (n+6))) [some (.ref h),some k,some x,some (.int now),some .aj,none,none] S1) _;apply aQ;apply gy;rfl';apply oE;rfl';refine ak (B6 (n+5) _ now S1 rfl) ?_;refine⟨rfl,?_⟩;have h2:=h1.app (T:=[sN S1.length now,.lst [],.lst [],.lst []]);have f2:Fr (In h L) S (S1++[sN S1.length now,.lst [],.lst [],.lst []]):=dm f1;have w2:nU (S1++[sN S1.length now,.lst [],.lst [],.lst []]) ⟨x,now,[],[],[]⟩ S1.length:=⟨pY _ 0 _,pY _ 1 _,pY _ 2 _,pY _ 3 _⟩;have g2:∀p∈L,p.2+4<=S1.length:=λp hp=>(h1.ws p hp).lt;have l2:=f1.1;generalize S1++[sN S1.length now,.lst [],.lst [],.lst []]=S2 at h2 f2 w2;refine⟨h2.o7,c9 hx,j8 ho hx,?_⟩;rw[lL,BQ];have d8:aL { a with kept:=cy a x now } (L.map (·.1)) B:=ho.found x now;have DJ:(cW { a with kept:=cy a x now } x).length<=8:=sd ho.held;have ht:cW { a with kept:=cy a x now } x=cW a x:=rfl;cases hf:dh L x with
  | some p=>
   obtain⟨hp,hn⟩:=gX hf;have hW:HW S2 h { a with kept:=cy a x now } L x p.1 p.2:=⟨h2,h2.ws p hp,hn,h2.lo p hp,Or.inl hp⟩;have hk2:=ho.wk p.1 (List.mem_map.mpr ⟨p,hp,rfl⟩);refine gk (yP (n:=n) (now:=now) hW d8 hx hk hk2.aJ hk2.wl hk2.al DJ) (λ_ _ h=>h.elim) (λv S' ht=>?_);rw[show cW { a with kept:=cy a x now } x=cW a x from rfl] at ht;obtain⟨t1,t2⟩:=w9 hW f2 (Or.inl hp) hA ht;show ∃L',_;dsimp only[Option.map_some,Option.getD_some];split
   .rename_i hz;exact⟨L,rfl,t1 hz⟩
   .rename_i hz;exact⟨_,vD (by exact hn),t2 hz⟩
  | none=>
   have hN:=xZ hf;have hW:HW S2 h { a with kept:=cy a x now } L x ⟨x,now,[],[],[]⟩ S1.length:=⟨h2,w2,rfl,l1,Or.inr ⟨hN,g2⟩⟩;refine gk (yP (n:=n) (now:=now) hW d8 hx hk (by simp) (by simp) (by simp) DJ) (λ_ _ h=>h.elim) (λv S' ht=>?_);rw[show cW { a with kept:=cy a x now } x=cW a x from rfl] at ht;obtain⟨t1,t2⟩:=w9 hW f2 (Or.inr ⟨hN,l2⟩) hA ht;show ∃L',_;dsimp only[Option.map_none,Option.getD_none];split
   .rename_i hz;exact⟨L,rfl,t1 hz⟩
   .rename_i hz;exact⟨_,vD rfl,t2 hz⟩
noncomputable abbrev fq (k:Nat):D:=.tup [.str "own",.int k]
noncomputable def su (a:HA)(ws:List WA)(x:D)(now:Int):HA×List WA×List D:=hX { a with ends:=a.ends++[.tup []] } ws (fq a.ends.length) x now
theorem aL.more {a:HA}{ws:List WA}{B:Nat}(ho:aL a ws B)(hB:B+1<=100000):aL { a with ends:=a.ends++[.tup []] } ws (B+1):=by have pP:=ho.el;obtain⟨h1,h2,h3,h4,h5,h6,h7,h8,h9,wn,wk,el,pn,pl,ll,bl⟩:=ho.mono (Nat.le_succ B) hB;refine⟨h1,h2,h3,h4,h5,h6,h7,h8,h9,wn,λp hp=>?_,by simp;omega,pn,pl,ll,bl⟩;obtain⟨k1,k2,k3,k4,k5,k6⟩:=wk p hp;exact⟨k1,λz hz=>(k2 z hz).mono (by simp),k3,k4,k5,k6⟩
theorem Mz {n h:Nat}{a:HA}{L:WL}{B:Nat}{x:D}{now:Int}{S:ae}(hh:br S h a L)(ho:aL a (L.map (·.1)) B)(hB:B+1<=100000)(hA:∀p∈L,p.1.asked≠[])(hx:aN x)(hw:0<=now):
 Wp ((ag P (n+8)).m 3 5 [.ref h,x,.int now] S) λv S'=>∃L' u,v = .tup [.int a.ends.length,u]/\L'.map (·.1)=(su a (L.map (·.1)) x now).2.1/\Out S h L (su a (L.map (·.1)) x now).1 L' (su a (L.map (·.1)) x now).2.2 u S':=by
 have hl:=hh.lt;have o0:=hh.o0;have o9:=hh.o9;have el:=ho.el;rw[yf];apply aH;unfold pk;rfl';refine ak (gW (n+4) x S hx) ?_;rfl';refine ak (c6 (n+4) now S hw) ?_;rfl';refine⟨_,o9,by unfold sizeLine;omega,?_⟩;have h1:=hh.ends (a.ends++[.tup []]);have f1:Fr (In h L) S (S.set (h+9) (.lst (a.ends++[.tup []]))):=dn (Fr.refl _ _) λ_=>sQ (by omega) (by omega);generalize S.set (h+9) (.lst (a.ends++[.tup []]))=S1 at h1 f1;have q0:=h1.o0;rfl';refine wp_mono (pE (n:=n) h1 (ho.more hB) hA hx (Or.inr ⟨a.ends.length,rfl,by simp⟩) hw) λv S' ⟨L',e,o⟩=>?_;rfl';exact⟨L',v,rfl,e,o.pre f1 λq hq=>Or.inl ⟨q,hq,rfl⟩⟩
theorem Jg {a:HA}{ws:List WA}{B:Nat}{x:D}{now:Int}(ho:aL a ws B)(hB:B+2<=100000)(hx:aN x):aL (su a ws x now).1 (su a ws x now).2.1 (B+2):=yS (ho.more (by omega)) (by omega) hx (Or.inr ⟨a.ends.length,rfl,by simp⟩)
theorem wq (n:Nat)(x:D)(v u:Int)(S:ae)(h:aN x)(v1:0<=v)(v2:v<=999)(u1:0<=u):(ag P (n+4)).f 15 [i8 x v u] S = .ok (.bl true) S:=by rw[oV];apply bW;apply aH;unfold kI;rfl';refine iN (by simp) ?_;rfl';refine ak (jw _ _ _ h) ?_;rfl';refine p7 ?_;rfl';refine iF rfl ?_;rfl';refine iF rfl ?_;rfl';refine ak (xW _ _ _ v1 v2) ?_;rfl';refine ak (qE _ _ _ u1) ?_;exact⟨rfl,rfl⟩
theorem x4 {n h:Nat}{a:HA}{L:WL}{B:Nat}{x:D}{s now:Int}{S:ae}(hh:br S h a L)(ho:aL a (L.map (·.1)) B)(hA:∀p∈L,p.1.asked≠[])(hx:aN x)(hw:0<=now)(hs:s∈a.near):
 Wp ((ag P (n+8)).m 3 9 [.ref h,.int s,Eg x,.int now] S) λv S'=>∃L',L'.map (·.1)=(hX a (L.map (·.1)) (.int s) x now).2.1/\Out S h L (hX a (L.map (·.1)) (.int s) x now).1 L' (hX a (L.map (·.1)) (.int s) x now).2.2 v S':=by
 have hl:=hh.lt;have o0:=hh.o0;have o3:=hh.o3;have o7:=hh.o7;rw[jQ];apply aH;unfold ig;rfl';refine ak (gx _ _ _) ?_;rfl';refine lK o3 rfl iE ?_;rfl';refine iF (gh.mpr hs) ?_;rfl';refine ak (rE _ x _ S hx (Or.inl rfl)) ?_;rfl';refine ak (c6 _ now S hw) ?_;rfl';refine p7 ?_;rfl';refine iF rfl ?_;rfl';exact pE (n:=n) hh ho hA hx (Or.inl ⟨s,rfl⟩) hw
noncomputable def eO (a:HA)(ws:List WA)(s:Int)(x:D):HA×List WA×List D:=match ws.find? λy=>decide (y.nm=x) with
 | none=>(a,ws,[])
 | some y=>if s∈y.asked then (if y.asked.erase s=[] then ({ a with ends:=bu a.ends y.aJ (.tup [.aj]) },ws.filter λz=>decide (z.nm≠x),lettersOf y.aJ (BK x)) else (a,ws.map λz=>if z.nm=x then jS y s else z,[])) else (a,ws,[])
theorem l9 {L:WL}{x:D}:((L.map (·.1)).find? λy=>decide (y.nm=x))=(dh L x).map (·.1):=by unfold dh;rw[List.find?_map];rfl
theorem lI {L:WL}{x:D}:(dP L x).map (·.1)=(L.map (·.1)).filter λz=>decide (z.nm≠x):=by unfold dP;rw[List.filter_map];rfl
theorem yL {S:ae}{h:Nat}{a:HA}{L:WL}(hh:br S h a L):Out S h L a L [] (.ref S.length) (S++[.lst []]):=⟨_,rfl,Nat.le_refl _,bt _ _,hh.app,dm (Fr.refl _ _),λp hp=>Or.inl ⟨p,hp,rfl⟩,hh.fresh (Nat.le_refl _)⟩
theorem wU {h:Nat}{a:HA}{L:WL}{B:Nat}{x cq:D}{s now:Int}{S:ae}{K:En}{cs:List CS}(hh:br S h a L)(ho:aL a (L.map (·.1)) B)(hx:aN x)
 (q0:(∀p,dh L x=some p->s∉p.1.asked)->K.rt (.ref S.length) (S++[.lst []])) (q1:∀p,dh L x=some p->s∈p.1.asked->Wf (ah cs [some (.ref h),some (.int s),some cq,some (.int now),some x] S) K):
 Wf (ah ((bA (lh (aq (aC .NotIn (aa 4) (aE (aa 0) 39))) (aq (aC .NotIn (aa 1) (aE (bh (aE (aa 0) 39) (aa 4)) 6)))) (ah [(retS (bT []))]) (ah []))::cs) [some (.ref h),some (.int s),some cq,some (.int now),some x] S) K:=by
 have o0:=hh.o0;have o7:=hh.o7;apply aQ;apply f6;rfl';refine qX o7 (j8 ho hx) ?_;rw[lL];cases hf:dh L x with
 | none=>rfl';refine ji ?_;rfl';exact q0 λp e=>by rw[hf] at e;cases e
 | some p=>
  obtain⟨hp,hn⟩:=gX hf;have w0:=(hh.ws p hp).o0;have w2:=(hh.ws p hp).o2;rfl';refine l8 ?_;rfl';refine oG o7 (j8 ho hx) (by rw[lL,hf];rfl) ?_;rfl';refine lK w2 rfl iE ?_;rfl';refine eJ (λhc=>?_) (λhc=>?_)
  .apply bH;exact q1 p hf (gh.mp hc)
  .rfl';exact q0 λp' e=>by rw[hf] at e;cases e;exact λh=>hc (gh.mpr h)
theorem yz {n h:Nat}{a:HA}{L:WL}{B:Nat}{p:WA×Nat}{s:Int}{S:ae}(hh:br S h a L)(ho:aL a (L.map (·.1)) B)(hB:B+1<=100000)(hf:dh L p.1.nm=some p)(hs:s∈p.1.asked):
 Wp ((ag P (n+3)).m 3 36 [.ref h,.int s,p.1.nm] S) λv S'=>∃L',L'.map (·.1)=(eO a (L.map (·.1)) s p.1.nm).2.1/\Out S h L (eO a (L.map (·.1)) s p.1.nm).1 L' (eO a (L.map (·.1)) s p.1.nm).2.2 v S':=by
 refine wp_mono (AR hh ho (gX hf).1 hs hB) λv S' o=>?_;unfold eO;rw[l9,hf];dsimp only[Option.map_some];rw[if_pos hs];split at o
 .rename_i hc;rw[if_pos hc];exact⟨_,lI,o⟩
 .rename_i hc;rw[if_neg hc];exact⟨_,lb,o⟩
theorem sX {a:HA}{L:WL}{s:Int}{x:D}(h:∀p,dh L x=some p->s∉p.1.asked):eO a (L.map (·.1)) s x=(a,L.map (·.1),[]):=by
 unfold eO;rw[l9];cases hf:dh L x with
 | none=>rfl
 | some p=>dsimp only[Option.map_some];rw[if_neg (h p hf)]
theorem zX {n h:Nat}{a:HA}{L:WL}{B:Nat}{x:D}{s now:Int}{S:ae}(hh:br S h a L)(ho:aL a (L.map (·.1)) B)(hB:B+1<=100000)(hx:aN x)(hw:0<=now)(hs:s∈a.near):
 Wp ((ag P (n+7)).m 3 9 [.ref h,.int s,BK x,.int now] S) λv S'=>∃L',L'.map (·.1)=(eO a (L.map (·.1)) s x).2.1/\Out S h L (eO a (L.map (·.1)) s x).1 L' (eO a (L.map (·.1)) s x).2.2 v S':=by
 have hl:=hh.lt;have o0:=hh.o0;have o3:=hh.o3;have o7:=hh.o7;rw[jQ];apply aH;unfold ig;rfl';refine ak (gx _ _ _) ?_;rfl';refine lK o3 rfl iE ?_;rfl';refine iF (gh.mpr hs) ?_;rfl';refine ak (rE _ x _ S hx (Or.inr rfl)) ?_;rfl';refine ak (c6 _ now S hw) ?_;rfl';refine p7 ?_;apply tb;refine iN (by decide +kernel) ?_;apply bH;refine wU hh ho hx (λhn=>?_) (λp hf hc=>?_)
 .refine⟨L,?_,?_⟩
  .rw[sX hn]
  .rw[sX hn];exact yL hh
 .rfl';refine p7 ?_;rfl';refine iF rfl ?_;rfl';obtain⟨_,rfl⟩:=gX hf;exact yz (n:=n+3) hh ho hB hf hc
noncomputable def dX (a:HA)(ws:List WA)(s:Int)(x:D)(v u now:Int):HA×List WA×List D:=if u<now then eO a ws s x else match ws.find? λy=>decide (y.nm=x) with
 | none=>(a,ws,[])
 | some y=>if s∈y.asked then (Cc a x s v u now y.aJ,ws.filter λz=>decide (z.nm≠x),lettersOf (y.aJ.filter λz=>decide (z ≠ .int s)) (i8 x v u)) else (a,ws,[])
theorem uV {n h:Nat}{a:HA}{L:WL}{B:Nat}{x:D}{s v u now:Int}{S:ae}(hh:br S h a L)(ho:aL a (L.map (·.1)) B)(hB:B+1<=100000)(hx:aN x)(hw:0<=now)(hs:s∈a.near)(v1:0<=v)(v2:v<=999)(u1:0<=u):
 Wp ((ag P (n+7)).m 3 9 [.ref h,.int s,i8 x v u,.int now] S) λr S'=>∃L',L'.map (·.1)=(dX a (L.map (·.1)) s x v u now).2.1/\Out S h L (dX a (L.map (·.1)) s x v u now).1 L' (dX a (L.map (·.1)) s x v u now).2.2 r S':=by
 have hl:=hh.lt;have o0:=hh.o0;have o3:=hh.o3;have o7:=hh.o7;rw[jQ];apply aH;unfold ig;rfl';refine ak (gx _ _ _) ?_;rfl';refine lK o3 rfl iE ?_;rfl';refine iF (gh.mpr hs) ?_;rfl';refine ak (wq _ x v u S hx v1 v2 u1) ?_;rfl';refine ak (c6 _ now S hw) ?_;rfl';refine p7 ?_;apply tb;refine iN (by decide +kernel) ?_;apply bH;refine wU hh ho hx (λhn=>?_) (λp hf hc=>?_)
 .have e:dX a (L.map (·.1)) s x v u now=(a,L.map (·.1),[]):=by
   unfold dX;rw[sX hn,l9];split
   .rfl
   .cases hf:dh L x with
    | none=>rfl
    | some p=>dsimp only[Option.map_some];rw[if_neg (hn p hf)]
  refine⟨L,?_,?_⟩
  .rw[e]
  .rw[e];exact yL hh
 .rfl';refine p7 ?_;rfl';refine iN (by decide +kernel) ?_;rfl';obtain⟨hp,rfl⟩:=gX hf;refine eJ (λhu=>?_) (λhu=>?_)
  .rfl';unfold dX;rw[if_pos hu];exact yz (n:=n+3) hh ho hB hf hc
  .rfl';refine wp_mono (uX (n:=n) hh ho hp v1 v2 u1 hw) λr S' o=>?_;show ∃L',_;unfold dX;rw[if_neg hu,l9,hf];dsimp only[Option.map_some];rw[if_pos hc];exact⟨_,lI,o⟩
theorem KR {n h k:Nat}{a:HA}{L:WL}{B:Nat}{e:D}{S:ae}(hh:br S h a L)(he:a.ends[k]?=some e):
 (ag P (n+3)).m 3 10 [.ref h,.int k] S = .ok e S:=by
 have o0:=hh.o0;have o9:=hh.o9;have hk:k<a.ends.length:=(List.getElem?_eq_some_iff.mp he).1;rw[yb];apply bW;apply aH;unfold oP;rfl';refine ak (g6 _ _ _ _ _ (by omega) (by omega)) ?_;rfl';refine vb o9 (v:=e) ?_ ?_
 .unfold jk qP;rw[if_pos (by omega),if_pos (by omega)];simpa using he
 exact⟨rfl,rfl⟩
theorem BX {a:HA}{ws:List WA}{B:Nat}{s:Int}{x:D}(ho:aL a ws B)(hB:B+1<=100000):aL (eO a ws s x).1 (eO a ws s x).2.1 (B+1):=by
 have d8:=ho.mono (Nat.le_succ B) hB;unfold eO;cases hf:ws.find? λy=>decide (y.nm=x) with
 | none=>exact d8
 | some y=>
  dsimp only;have hy:=List.mem_of_find?_eq_some hf;have hn:y.nm=x:=by simpa using List.find?_some hf
  split
  .split
   .have hs:(ws.filter λz=>decide (z.nm≠x)).Sublist ws:=List.filter_sublist;refine(d8.ends _ (d5 _ _ _)).ws ((hs.map _).nodup ho.wn) (λz hz=>?_) (Nat.le_trans hs.length_le d8.ll);show nJ (bu a.ends y.aJ (.tup [.aj])).length (B+1) z;rw[d5];exact d8.wk z (hs.subset hz)
   .refine d8.ws ?_ (λz hz=>?_) (by simpa using d8.ll)
    .rw[List.map_map];have:ws.map ((λp:WA=>p.nm) ∘ λz=>if z.nm=x then jS y s else z)=ws.map λp=>p.nm:=by
      apply List.map_congr_left;intro z _;show (if z.nm=x then jS y s else z).nm=z.nm;split
      .rename_i h;show y.nm=z.nm;rw[hn,h]
      .rfl
     rw[this];exact ho.wn
    .obtain⟨q,hq,e⟩:=List.mem_map.mp hz;split at e
     .rw[<-e];obtain⟨k1,k2,k3,k4,k5,k6⟩:=ho.wk y hy;exact⟨k1,k2,by show y.aJ.length<=B+1;omega,by show (y.asked.erase s).length<=_;have:=List.length_erase_le (a:=s) (l:=y.asked);omega,by simp;omega,k6⟩
     .rw[<-e];exact d8.wk q hq
  .exact d8
theorem E7 {a:HA}{ws:List WA}{s:Int}{x:D}(hA:∀z∈ws,z.asked≠[]):∀z∈(eO a ws s x).2.1,z.asked≠[]:=by
 unfold eO;cases hf:ws.find? λy=>decide (y.nm=x) with
 | none=>exact hA
 | some y=>
  dsimp only;split
  .split
   .exact λz hz=>hA z (List.mem_filter.mp hz).1
   .rename_i h;intro z hz;obtain⟨q,hq,e⟩:=List.mem_map.mp hz;split at e
    .rw[<-e];exact h
    .rw[<-e];exact hA q hq
  .exact hA
theorem Jj {room:Int}{rows:List Row}{x:D}{v u now:Int}(h0:0<=room)(hl:(rows.length:Int)<=room):((iK room rows x v u now).length:Int)<=room:=by
 have hdl:((bp rows x).length:Int)<=room:=by have:=(d6 rows x).length_le;omega
 unfold iK
 by_cases hu:u > now
 .simp only[if_pos hu];split
  .simp;omega
  .omega
 .simp only[if_neg hu];split
  .simp;omega
  .omega
theorem Hu {room:Int}{rows:List Row}{x:D}{v u now:Int}(hr:c8 rows)(hx:aN x):c8 (iK room rows x v u now):=by
 have hd:c8 (bp rows x):=j6 hr (d6 _ _);have ha:c8 (if u > now then bp rows x++[(x,v,u)] else bp rows x):=by
  split
  .exact xb hd (kT rows x) hx
  .exact hd
 unfold iK;generalize (if u > now then bp rows x++[(x,v,u)] else bp rows x)=w at ha ⊢;split
 .exact j6 ha (List.drop_sublist _ _)
 .exact ha
theorem Jp {l:List (D×Int×Int×Int)}{x:D}{now v u:Int}(h:∀r∈l,aN r.1)(hx:aN x):(∀r∈jP l x now v u,aN r.1)/\(jP l x now v u).length<=l.length+1:=by
 unfold jP;split
 .refine⟨λr hr=>?_,by simp⟩;obtain⟨q,hq,e⟩:=List.mem_map.mp hr;split at e
  .rw[<-e];exact h q hq
  .rw[<-e];exact h q hq
 .refine⟨λr hr=>?_,by simp⟩;rcases List.mem_append.mp hr with hr | hr
  .exact h r hr
  .rw[List.mem_singleton.mp hr];exact hx
theorem AI {a:HA}{ws:List WA}{B:Nat}{s v u now:Int}{x:D}(ho:aL a ws B)(hB:B+1<=100000)(hx:aN x):aL (dX a ws s x v u now).1 (dX a ws s x v u now).2.1 (B+1):=by
 have d8:=ho.mono (Nat.le_succ B) hB;unfold dX;split
 .exact BX ho hB
 cases hf:ws.find? λy=>decide (y.nm=x) with
 | none=>exact d8
 | some y=>
  dsimp only;split
  .have hs:(ws.filter λz=>decide (z.nm≠x)).Sublist ws:=List.filter_sublist;obtain⟨h1,h2,h3,h4,h5,h6,h7,h8,h9,wn,wk,el,pn,pl,ll,bl⟩:=d8;have hp:=Jp (now:=now) (v:=v) (u:=u) pn hx;refine⟨h1,h2,h3,Hu h4 hx,Jj h2 h5,h6,h7,h8,h9,(hs.map _).nodup wn,λz hz=>?_,?_,hp.1,Nat.le_trans hp.2 (by have:=ho.pl;omega),Nat.le_trans hs.length_le ll,bl⟩
   .show nJ (bu a.ends _ _).length (B+1) z;rw[d5];exact wk z (hs.subset hz)
   .show (bu a.ends _ _).length<=_;rw[d5];exact el
  .exact d8
theorem cC (n d:Nat)(m:Int)(S:ae)(hd:cY d S)(h1:0<m)(h2:m<2 ^ 250):Wp ((ag P (n+2)).f 18 [.ref d,.int m] S) λv S'=>(∃z,v = .int z/\0<=z/\z<m)/\cY d S'/\Fr (· = d) S S':=by refine wp_mono (IK n d m S hd h1 h2) λv S' ⟨hz,a,b,e⟩=>?_;subst e;obtain⟨x,y,hd⟩:=hd;exact⟨hz,⟨a,b,dk hd⟩,Fr.set _ _ _ _ rfl⟩
theorem Jt (n d:Nat)(S:ae)(hd:cY d S):Wp ((ag P (n+3)).f 20 [.ref d] S) λv S'=>(∃ps:List D,v = .tup ps/\ps.length<=4/\∀p∈ps,p∈parts)/\cY d S'/\Fr (· = d) S S':=by
 rw[AV];apply aH;unfold qT;rfl';have hp:(S++[O.lst parts])[S.length]?=some (.lst parts):=bt _ _;have cN:S.length≠d:=λe=>by have:=hd.lt;omega
 have mK:Fr (· = d) S (S++[O.lst parts]):=Fr.app _ _ _;refine wp_mono (cC n d 5 _ (hd.fr (Fr.app no S [O.lst parts]) λh=>h) (by decide) (by decide)) λv S1 ⟨⟨j,ej,j1,j2⟩,fI,ff⟩=>?_;subst ej;refine⟨_,rfl,?_,?_⟩
 .simp only[e7,Bool.and_eq_true,decide_eq_true_eq,sizeLine];refine⟨⟨?_,?_⟩,?_⟩
  .omega
  .omega
  .exact decide_eq_true (by omega)
 refine yT (Inv:=λi ys S'=>i<=4/\S'[S.length]?=some (.lst parts)/\cY d S'/\Fr (· = d) S S'/\ys.length=i/\∀p∈ys,p∈parts) ⟨by omega,ff.at hp cN,fI,mK.trans ff λ_ _ h=>h,rfl,λx hx=>by simp at hx⟩ (λ_ _ _ _ _=>rfl) (λi x ys S2 hx hI=>?_) (λys S2 hI=>?_)
 .obtain⟨h0,h1,h2,h3,h4,h5⟩:=hI;have hi:=(List.getElem?_eq_some_iff.mp hx).1;rw[gP] at hi;rw[ub hx];refine⟨_,rfl,?_⟩;apply iZ;rw[if_pos rfl];refine cJ (decide_eq_true (show ys.length<sizeLine by unfold sizeLine;omega)) (wp_bind ?_);rfl';refine wp_mono (cC n d 5 _ h2 (by decide) (by decide)) λv S3 ⟨⟨p,ep,p1,p2⟩,gT,gE⟩=>?_;subst ep;rfl';refine wp_mono (cC n d 2 _ gT (by decide) (by decide)) λv S4 ⟨⟨q,eq,q1,q2⟩,sr,pQ⟩=>?_;subst eq;refine i5 (mul_r (by omega)) ?_;have hpq:0<=p*q/\p*q<5:=by
   have:q=0\/q=1:=by omega
   rcases this with rfl|rfl<;>omega
  obtain⟨y,e,hm⟩:=kS (xs:=parts) hpq.1 hpq.2;refine dv (bf (pQ.at (gE.at h1 cN) cN)) e ?_;refine⟨by omega,pQ.at (gE.at h1 cN) cN,sr,(h3.trans gE λ_ _ h=>h).trans pQ λ_ _ h=>h,by simp[h4],λz hz=>?_⟩;rcases List.mem_append.mp hz with hz | hz
  .exact h5 z hz
  .rw[List.mem_singleton.mp hz];exact hm
 .obtain⟨_,h1,h2,h3,h4,h5⟩:=hI;rw[gP] at h4;exact⟨⟨ys,rfl,by omega,h5⟩,h2,h3⟩
theorem pw (n d:Nat)(S:ae)(hd:cY d S):Wp ((ag P (n+4)).f 21 [.ref d] S) λv S'=>aN v/\cY d S'/\Fr (· = d) S S':=by
 rw[sM];apply aH;unfold lu;rfl';refine wp_mono (cC (n+1) d 3 _ hd (by decide) (by decide)) λv S1 ⟨⟨j,ej,j1,j2⟩,fI,ff⟩=>?_;subst ej;rfl';refine eJ (λ_=>?_) (λ_=>?_)
 .rfl';exact⟨⟨_,rfl,by decide,by decide,by decide +kernel⟩,fI,ff⟩
 .rfl';refine wp_mono (Jt n d _ fI) λv S2 ⟨⟨ps,ep,l1,m1⟩,hd2,lH⟩=>?_;subst ep;rfl';refine wp_mono (cC (n+1) d 2 _ (hd2.fr (Fr.app no S2 _) λh=>h) (by decide) (by decide)) λv S3 ⟨⟨q,eq,q1,q2⟩,gT,gE⟩=>?_;subst eq;obtain⟨y,e,hm⟩:=kS (xs:=[D.str "a",D.str "b"]) q1 q2;have cN:S2.length≠d:=λe=>by have:=hd2.lt;omega
  refine dv (bf (gE.at (bt _ _) cN)) e ?_;rfl';refine ak (a:=.tup (ps++[y])) (S:=S3) ?_ ?_
  .show aB (big (ps.length+1)) _=_;have:big (ps.length+1)=true:=by simp[big,sizeLine];omega
   rw[this];rfl
  refine⟨⟨_,rfl,by simp,by simp;omega,λp hp=>?_⟩,gT,((ff.trans lH λ_ _ h=>h).trans (Fr.app no _ _) λ_ _ h=>h.elim).trans gE λ_ _ h=>h⟩;rcases List.mem_append.mp hp with hp | hp
  .exact m1 p hp
  .rw[List.mem_singleton.mp hp];have:y=D.str "a"\/y=D.str "b":=by simpa using hm
   rcases this with rfl|rfl
   .exact List.mem_map.mpr ⟨"a",by decide +kernel,rfl⟩
   .exact List.mem_map.mpr ⟨"b",by decide +kernel,rfl⟩
theorem Mq {l:List Int}{x:Int}(j:Nat)(hn:l.Nodup)(hx:x∉l):(l.take j++x::l.drop j).Nodup/\(∀y,y∈l.take j++x::l.drop j->y=x\/y∈l)/\(l.take j++x::l.drop j).length=l.length+1:=by
 have hp:(l.take j++x::l.drop j).Perm (x::l):=by have:=List.perm_middle (a:=x) (l₁:=l.take j) (l₂:=l.drop j);rw[List.take_append_drop] at this;exact this
 refine⟨hp.nodup_iff.mpr (List.nodup_cons.mpr ⟨hx,hn⟩),λy hy=>?_,by rw[hp.length_eq];simp⟩;have:=hp.subset hy;simpa using this
theorem yd (n d s:Nat)(near:List Int)(S:ae)(hd:cY d S)(hs:S[s]?=some (.lst (near.map .int)))(hn:near.Nodup)(hl:near.length<=8)(pL:s≠d):
 Wp ((ag P (n+3)).f 22 [.ref d,.ref s] S) λv S'=>∃l:List Int,v = .ref S.length/\S'[S.length]?=some (.lst (l.map .int))/\l.Nodup/\(∀i∈l,i∈near)/\l.length<=near.length/\cY d S'/\Fr (· = d) S S':=by
 have hdl:=hd.lt;have hsl:=fi hs;rw[p6];apply aH;unfold jR;rfl';refine lz (cG hs) ?_;refine j5 (Inv:=λi ρ S'=>(∃r3,ρ=[some (.ref d),some (.ref s),some (.ref S.length),r3])/\cY d S'/\Fr (· = d) S S'/\∃l:List Int,S'[S.length]?=some (.lst (l.map .int))/\l.Nodup/\(∀x∈l,x∈near.take i)/\l.length<=i) ⟨⟨_,rfl⟩,hd.fr (Fr.app no S _) (λh=>h),Fr.app _ _ _,[],bt _ _,by simp,by simp,Nat.le_refl _⟩ (λi ρ S' _ hI=>?_) (λi y ρ S1 hi hI=>?_) (λρ S1 hI=>?_)
 .exact decide_eq_true (bf (hI.2.2.1.at hs pL))
 .obtain⟨⟨r3,rfl⟩,fI,ff,l,gl,ln,lm,ll⟩:=hI;rw[List.getElem?_map] at hi;cases hx:near[i]? with
  | none=>rw[hx] at hi;cases hi
  | some x=>
   rw[hx] at hi;have hy:D.int x=y:=by simpa using hi
   subst hy;have zx:=(List.getElem?_eq_some_iff.mp hx).1;have de:=ff.1;refine⟨_,rfl,?_⟩;show Wf (ah _ [some (.ref d),some (.ref s),some (.ref S.length),some (.int x)] S1) _;rfl';refine wp_mono (cC n d 2 _ fI (by decide) (by decide)) λv S2 ⟨⟨q,eq,q1,q2⟩,hd2,lH⟩=>?_;subst eq;have g2:=lH.at gl (by omega);have f2:=ff.trans lH λ_ _ h=>h;have ts:near.take (i+1)=near.take i++[x]:=take_succ hx;rfl';refine eJ (λ_=>?_) (λ_=>?_)
   .rfl';rw[List.length_map];refine wp_mono (cC n d ((l.length:Int)+1) _ hd2 (by omega) (by omega)) λv S3 ⟨⟨j,ej,j1,j2⟩,gT,gE⟩=>?_;subst ej;have g3:=gE.at g2 (by omega);rfl';refine⟨j,rfl,g3,j1,by omega,by omega,?_⟩;have hxl:x∉l:=λhm=>by have hm:=lm x hm;have hnd:(near.take (i+1)).Nodup:=(List.take_sublist _ _).nodup hn;rw[ts,List.nodup_append] at hnd;exact hnd.2.2 x hm x (by simp) rfl
    obtain⟨i1,i2,i3⟩:=Mq j.toNat ln hxl;have sr:=gT.fr (Fr.set (· = S.length) S3 S.length (.lst ((l.map D.int).take j.toNat++D.int x::(l.map D.int).drop j.toNat)) rfl) (by omega);rfl';refine⟨⟨_,rfl⟩,sr,dn (f2.trans gE λ_ _ h=>h) (λh=>by omega),l.take j.toNat++x::l.drop j.toNat,?_,i1,λy hy=>?_,by rw[i3];omega⟩
    .rw[dk g3];simp
    .rw[ts];rcases i2 y hy with rfl | hy
     .simp
     .exact List.mem_append.mpr (Or.inl (lm y hy))
   .rfl';refine⟨⟨_,rfl⟩,hd2,f2,l,g2,ln,λy hy=>?_,by omega⟩;rw[ts];exact List.mem_append.mpr (Or.inl (lm y hy))
 .obtain⟨⟨r3,rfl⟩,fI,ff,l,gl,ln,lm,ll⟩:=hI;rw[List.length_map] at ll lm;rfl';rw[List.take_length] at lm;exact⟨l,rfl,gl,ln,lm,ll,fI,ff⟩
theorem yY {chk:ae->Bool}{is:List Nat}{one:Bool}{b:CS}{K:En}{items:List D}(Inv:List D->RF.Env->ae->Prop){ρ:RF.Env}{S:ae}(h0:Inv items ρ S)(hc:∀l ρ S,Inv l ρ S->chk S=true)
 (hs:∀x l ρ S,Inv (x::l) ρ S->∃ρ1,oS is one x ρ=some ρ1/\Wf (b ρ1 S) { K with nx:=Inv l,ct:=Inv l,bk:=K.nx }) (he:∀ρ S,Inv [] ρ S->K.nx ρ S):Wf (e6 chk is one b items ρ S) K:=by
 refine j5 (Inv:=λi ρ S=>Inv (items.drop i) ρ S) (by simpa using h0) (λi ρ S _ h=>hc _ ρ S h) (λi x ρ S hx h=>?_) (λρ S h=>?_)
 .obtain⟨h1,h2⟩:=List.getElem?_eq_some_iff.mp hx;rw[List.drop_eq_getElem_cons h1,h2] at h;exact hs x _ ρ S h
 .rw[List.drop_length] at h;exact he ρ S h
theorem L4 {i n:Nat}{e:C D}{ρ:RF.Env}{S:ae}{K:En}(h:ρ[i]?=some (some (.ref n)))(w:Wp (e ρ S) λy S1=>∃m xs ys,y = .ref m/\S1[n]?=some (.lst xs)/\S1[m]?=some (.lst ys)/\xs.length+ys.length<=sizeLine/\K.nx ρ (S1.set n (.lst (xs++ys)))):Wf (qb i e ρ S) K:=by unfold qb;rw[h];refine du (wp_mono w λy S1 ⟨m,xs,ys,e1,g1,g2,hl,q⟩=>?_);subst e1;refine du (ak (a:=.aj) (S:=S1.set n (.lst (xs++ys))) ?_ q);unfold iL;simp only[g1,g2];rw[show big (xs.length+ys.length)=true from decide_eq_true hl];rfl
theorem JH {n k:Nat}{room:Int}{rows:List Row}{now:Int}{S:ae}(h:KS k room rows S)(hr:c8 rows)(hb:rows.length<=9)(w1:0<=now):
 Wp ((ag P (n+4)).m 0 2 [.ref k,.int now] S) λv S'=>∃cur:List Row,cur.Sublist rows/\S'[k+1]?=some (.aG (cur.map kv))/\Fr (· = k+1) S S':=by
 obtain⟨h1,h2⟩:=h;have zA:=fi h2;rw[xr];apply aH;unfold nA;rfl';refine ak (c6 n now S w1) ?_;apply aQ;apply gy;apply v5;rfl';have hk:∀p∈rows.map kv,aY p.1=true:=λp hp=>by obtain⟨r,lF,rfl⟩:=List.mem_map.mp hp;exact c9 (hr.2 r lF)
 refine cd h2 (by simp[sizeLine];omega) hk (λx=>(rows.find? λr=>decide (r.1=x)).elim false λr=>decide (r.2.2<=now)) id (λp hp=>⟨?_,λ_=>rfl⟩) ?_
 .obtain⟨r,lF,rfl⟩:=List.mem_map.mp hp;have hv:bB (rows.map kv) (kv r).1=some (.tup [.int r.2.1,.int r.2.2]):=by rw[fQ];show Option.map _ (rows.find? λs=>decide (s.1=r.1))=_;rw[iI hr.1 lF];rfl
  apply bW;rfl';refine Gj (dk h2) (hk _ hp) hv ?_;rfl';refine⟨?_,rfl⟩;show _=(rows.find? λs=>decide (s.1=r.1)).elim false _;rw[iI hr.1 lF];rfl
 have hq:∃qs:List Row,qs.Sublist rows/\((((rows.map kv).map (·.1)).filter λx=>(rows.find? λr=>decide (r.1=x)).elim false λr=>decide (r.2.2<=now)).map id)=qs.map (·.1):=by rw[List.map_id,List.map_map];have:((λx:D×D=>x.1) ∘ kv)=λr:Row=>r.1:=rfl;rw[this,List.filter_map];exact⟨_,List.filter_sublist,rfl⟩
 obtain⟨qs,hqs,e⟩:=hq;rw[e];rfl';refine lz (bt _ _) ?_;refine yY (Inv:=λl ρ S'=>∃iA cur r2,l=iA.map (·.1)/\(iA.map (·.1)).Nodup/\(∀r∈iA,r∈cur)/\cur.Sublist rows/\ρ=[some (.ref k),some (.int now),r2,some (.ref S.length)]/\S'[k+1]?=some (.aG (cur.map kv))/\Fr (· = k+1) (S++[.lst (qs.map (·.1))]) S') ⟨qs,rows,_,rfl,(hqs.map _).nodup hr.1,λr hr=>hqs.subset hr,List.Sublist.refl _,rfl,cG h2,Fr.refl _ _⟩ (λl ρ S' ⟨_,_,_,_,_,_,_,_,_,hf⟩=>decide_eq_true (bf (hf.at (bt _ _) (by omega)))) (λx l ρ S' ⟨iA,cur,r2,el,hn,hm,hs,eρ,g,hf⟩=>?_) (λρ S' ⟨iA,cur,r2,el,hn,hm,hs,eρ,g,hf⟩=>?_)
 .subst eρ;cases iA with
  | nil=>cases el
  | cons r iA=>obtain⟨rfl,rfl⟩:=List.cons.inj el;simp only[List.map_cons,List.nodup_cons] at hn;have g0:=hf.at (cG h1) (by omega);have hc:=j6 hr hs;refine⟨_,rfl,?_⟩;show Wf (ah _ [some (.ref k),some (.int now),some r.1,some (.ref S.length)] S') _;have uK:=hm r List.mem_cons_self;rfl';refine Al g (eZ hc.2 (hc.2 r uK)) (by rw[fQ,iI hc.1 uK];rfl) ?_;rw[gO];rfl';refine⟨iA,bp cur r.1,_,rfl,hn.2,λs lD=>?_,(d6 _ _).trans hs,rfl,dk g,dn hf λ_=>rfl⟩;refine List.mem_filter.mpr ⟨hm s (List.mem_cons_of_mem _ lD),decide_eq_true λe=>hn.1 (e ▸ List.mem_map.mpr ⟨s,lD,rfl⟩)⟩
 .subst eρ;rfl';exact⟨cur,hs,g,(Fr.app _ _ _).trans hf λ_ _ h=>h⟩
theorem Bm {a:HA}{ws:List WA}{B:Nat}{x:D}{ys:List D}{e:D}(ho:aL a ws B):aL { a with ends:=bu a.ends ys e } (ws.filter λz=>decide (z.nm≠x)) B:=by have hs:(ws.filter λz=>decide (z.nm≠x)).Sublist ws:=List.filter_sublist;refine(ho.ends _ (d5 _ _ _)).ws ((hs.map _).nodup ho.wn) (λz hz=>?_) (Nat.le_trans hs.length_le ho.ll);show nJ (bu a.ends ys e).length B z;rw[d5];exact ho.wk z (hs.subset hz)
theorem aL.OK {a:HA}{ws:List WA}{B:Nat}{k:List Row}(ho:aL a ws B)(hk:k.Sublist a.kept):aL { a with kept:=k } ws B:=by obtain⟨h1,h2,h3,h4,h5,h6,h7,h8,h9,wn,wk,el,pn,pl,ll,bl⟩:=ho;exact⟨h1,h2,h3,j6 h4 hk,by have:=hk.length_le;show (k.length:Int)<=a.room;omega,h6,h7,h8,h9,wn,wk,el,pn,pl,ll,bl⟩
noncomputable abbrev OV (a:HA)(w:WA):HA:={ a with ends:=bu a.ends w.aJ (.tup [.aj]) }
theorem Ik {n h:Nat}{a:HA}{L:WL}{B:Nat}{now:Int}{S:ae}(J:HA->List WA->Prop)(hh:br S h a L)(ho:aL a (L.map (·.1)) B)(hB:B<=1000)(w1:0<=now)
 (j0:∀k:List Row,k.Sublist a.kept->J { a with kept:=k } (L.map (·.1))) (j1:∀a' ws w,aL a' ws B->J a' ws->w∈ws->J (OV a' w) (ws.filter λz=>decide (z.nm≠w.nm))):
 Wp ((ag P (n+5)).m 3 34 [.ref h,.int now] S) λv S'=>∃a' L',br S' h a' L'/\aL a' (L'.map (·.1)) B/\J a' (L'.map (·.1))/\L'.Sublist L/\(∀p∈L',now-p.1.since<a.pat)/\Fr (In h L) S S':=by
 have hl:=hh.lt;obtain⟨o0,o1,o2,o3,o4,o5,o6,o7,o8,o9,ws,lo,ap⟩:=hh;rw[vz];apply aH;unfold nc;rfl';refine ak (c6 (n+1) now S w1) ?_;rfl';refine wp_mono (JH (n:=n) ⟨o1,o2⟩ ho.kept (by have:=ho.kl;have:=ho.r9;omega) w1) λv S1 ⟨cur,hs,g2,hf⟩=>?_;have xN:br S1 h { a with kept:=cur } L:=by
  have hh:br S h a L:=⟨o0,o1,o2,o3,o4,o5,o6,o7,o8,o9,ws,lo,ap⟩;have:=(hh.kept cur).fr (S':=S1) (W:=no) ⟨by have:=hf.1;simpa using this,λi hi _=>?_⟩ λ_ _ h=>h
  .exact this
  .by_cases e:i=h+1+1
   .subst e;rw[g2,dk o2]
   .rw[List.getElem?_set_ne (Ne.symm e)];exact hf.2 i (by simpa using hi) e
 have d8:=ho.OK hs;have f1:Fr (In h L) S S1:=hf.mono λi _ e=>by subst e;exact sQ (by omega) (by omega)
 have j:=j0 cur hs;generalize hpat:a.pat=pat;have He:({ a with kept:=cur }:HA).pat=pat:=hpat;generalize ({ a with kept:=cur }:HA)=a1 at xN d8 j He;clear o0 o1 o2 o3 o4 o5 o6 o7 o8 o9 ws g2 hf;have kB:=xN.lt;have o0:=xN.o0;have o7:=xN.o7;rw[He] at o0;have hk:∀p∈L.map d4,aY p.1=true:=λp hp=>by obtain⟨q,hq,rfl⟩:=List.mem_map.mp hp;exact c9 (d8.wk q.1 (List.mem_map.mpr ⟨q,hq,rfl⟩)).nm
 have hll:L.length<=B:=by have:=d8.ll;simpa using this
 apply aQ;apply gy;apply v5;rfl';refine cd o7 (by simp[sizeLine];omega) hk (λx=>(dh L x).elim false λp=>decide (pat<=now-p.1.since)) id (λp hp=>⟨?_,λ_=>rfl⟩) ?_
 .obtain⟨q,hq,rfl⟩:=List.mem_map.mp hp;have w0:=(xN.ws q hq).o0;have hql:=lo q hq;have hv:bB (L.map d4) (d4 q).1=some (.ref q.2):=by rw[lL];show Option.map _ (dh L q.1.nm)=_;rw[gC d8.wn hq];rfl
  apply bW;rfl';refine Gj (dk o7) (hk _ hp) hv ?_;rfl';refine⟨?_,rfl⟩;show _=(dh L q.1.nm).elim false _;rw[gC d8.wn hq];rfl
 have hq:((((L.map d4).map (·.1)).filter λx=>(dh L x).elim false λp=>decide (pat<=now-p.1.since)).map id)=(L.filter λp=>decide (pat<=now-p.1.since)).map (·.1.nm):=by
  rw[List.map_id,List.map_map];have:((λx:D×D=>x.1) ∘ d4)=λp:WA×Nat=>p.1.nm:=rfl;rw[this,List.filter_map]
  congr 1
  apply List.filter_congr;intro p hp;show (dh L p.1.nm).elim false _=_;rw[gC d8.wn hp];rfl
 rw[hq];have kN:(L.filter λp=>decide (pat<=now-p.1.since)).Sublist L:=List.filter_sublist;generalize hqs:(L.filter λp=>decide (pat<=now-p.1.since))=qs at kN;have Of:∀p∈L,pat<=now-p.1.since->p∈qs:=λp hp h=>hqs ▸ List.mem_filter.mpr ⟨hp,decide_eq_true h⟩;have hnq:(qs.map (·.1.nm)).Nodup:=by have:=(kN.map (·.1.nm)).nodup (by have:=d8.wn;rw[List.map_map] at this;exact this);exact this
 rfl';refine lz (cG (bt _ _)) ?_;have e1:(S1++[O.lst (qs.map (·.1.nm))]).length=S1.length+1:=by simp
 rw[e1];have hql:(qs.map (·.1.nm)).length*B<=B*B:=Nat.mul_le_mul_right _ (by rw[List.length_map];exact Nat.le_trans kN.length_le hll);have hBB:B*B<=1000*1000:=Nat.mul_le_mul hB hB;have F8:∀i,S1.length<=i->¬In h L i:=λi hi=>xN.fresh hi;have kc:∀{L':WL} {i},L'.Sublist L->In h L' i->In h L i:=λ{L' i} hs hi=>by
  rcases hi with hi | ⟨p,hp,h1⟩
  .exact Or.inl hi
  .exact Or.inr ⟨p,hs.subset hp,h1⟩
 refine yY (Inv:=λl ρ S'=>∃(iA:WL) (a':HA) (L':WL) (ys:List D) (r2:Option D),l=iA.map (·.1.nm)/\l.Nodup/\(∀p∈iA,p∈L')/\L'.Sublist L/\(∀p∈L',pat<=now-p.1.since->p∈iA)/\ρ=[some (.ref h),some (.int now),r2,some (.ref S1.length),some (.ref (S1.length+1))]/\br S' h a' L'/\aL a' (L'.map (·.1)) B/\J a' (L'.map (·.1))/\S'[S1.length]?=some (.lst (qs.map (·.1.nm)))/\S'[S1.length+1]?=some (.lst ys)/\ys.length+l.length*B<=B*B/\Fr (In h L) S1 S')
  ⟨qs,a1,L,[],_,rfl,hnq,λp hp=>kN.subset hp,List.Sublist.refl _,Of,rfl,xN.app.app,d8,j,cG (bt _ _),by rw[<-e1];exact bt _ _,by simpa using hql,dm (dm (Fr.refl _ _))⟩
  (λl ρ S' ⟨_,_,_,_,_,_,_,_,_,_,_,_,_,_,g,_⟩=>decide_eq_true (bf g)) (λx l ρ S' ⟨iA,a',L',ys,r2,el,hn,hm,hs,de,eρ,zC,ho',j',gr,gq,hy,f'⟩=>?_) (λρ S' ⟨iA,a',L',ys,r2,el,hn,hm,hs,de,eρ,zC,ho',j',gr,gq,hy,f'⟩=>?_)
 .subst eρ;cases iA with
  | nil=>cases el
  | cons p iA=>
   obtain⟨rfl,rfl⟩:=List.cons.inj el;rw[List.nodup_cons] at hn;have hp:=hm p List.mem_cons_self;have q0:=zC.o0;refine⟨_,rfl,?_⟩;show Wf (ah _ [some (.ref h),some (.int now),some p.1.nm,some (.ref S1.length),some (.ref (S1.length+1))] S') _;apply aQ;refine L4 rfl ?_;rfl';refine wp_mono (xh (n:=n+2) zC ho' hp) λv S2 ⟨r,ev,hr,gl,hh2,f2,xH,hnr⟩=>?_;subst ev;have hle:(lettersOf p.1.aJ (.tup [.str "no",p.1.nm])).length<=B:=by unfold lettersOf;rw[List.length_map];exact Nat.le_trans (List.length_filter_le _ _) (ho'.wk p.1 (List.mem_map.mpr ⟨p,hp,rfl⟩)).wl
   rw[List.length_cons,Nat.succ_mul] at hy;have n1:=λh=>F8 S1.length (Nat.le_refl _) (kc hs h);have n2:=λh=>F8 (S1.length+1) (Nat.le_succ _) (kc hs h);have pL:(dP L' p.1.nm).Sublist L':=List.filter_sublist;refine⟨r,ys,_,rfl,f2.at gq n2,gl,by unfold sizeLine;omega,?_⟩;apply bH;have g1:=f2.at gr n1;have g2:=f2.at gq n2;refine⟨iA,_,dP L' p.1.nm,_,_,rfl,hn.2,λs lD=>?_,pL.trans hs,λs lD pP=>?_,rfl,hh2.fr (Fr.set (· = S1.length+1) _ _ _ rfl) λi hi e=>F8 (S1.length+1) (Nat.le_succ _) (kc (pL.trans hs) (e ▸ hi)),?_,?_,gH g1 (by omega),dk g2,by rw[List.length_append];omega,dn (f'.trans f2 λi _ hi=>kc hs hi) λh=>by omega⟩
   .exact List.mem_filter.mpr ⟨hm s (List.mem_cons_of_mem _ lD),decide_eq_true λe=>hn.1 (List.mem_map.mpr ⟨s,lD,e⟩)⟩
   .obtain⟨h1,h2⟩:=List.mem_filter.mp lD;rcases List.mem_cons.mp (de s h1 pP) with rfl | h3
    .simp at h2
    .exact h3
   .rw[lI];exact Bm ho'
   .rw[lI];exact j1 _ _ _ ho' j' (List.mem_map.mpr ⟨p,hp,rfl⟩)
 .subst eρ;rfl';have:iA=[]:=by simpa using el.symm
  subst this;refine⟨a',L',zC,ho',j',hs,λp hp=>?_,f1.trans f' λ_ _ h=>h⟩
  by_cases h:pat<=now-p.1.since
  .exact absurd (de p hp h) (by simp)
  .omega
end Q42
end
namespace Q42
open RF PySem
noncomputable abbrev eG:List Int:=[1,2,3]
structure J (asks:List (D×Int))(aM:List Row)(now pat:Int)(Z:Int->Prop)(E0:List D)(hl:D)(a:HA)(ws:List WA):Prop where
 el:a.ends.length=asks.length
 fW:∀(k:Nat) (p:D×Int),asks[k]?=some p->a.ends[k]?=some (.tup [])->fq k≠hl->∃w∈ws,w.nm=p.1/\fq k∈w.aJ/\w.since<=p.2
 own:∀w∈ws,∀k:Nat,fq k∈w.aJ->fq k≠hl/\a.ends[k]?=some (.tup [])/\∃p,asks[k]?=some p/\p.1=w.nm
 old:∀(k:Nat) (e:D),E0[k]?=some e->e ≠ .tup []->a.ends[k]?=some e
 new:∀(k:Nat) (e:D) (p:D×Int),a.ends[k]?=some e->asks[k]?=some p->E0[k]?=some (.tup [])->e = .tup []\/e = .tup [.aj]\/∃v u,e = .tup [.int v]/\(p.1,v,u)∈aM/\now<=u
 kept:∀r∈a.kept,r∈aM
 aZ:∀r∈a.aZ,(r.1,r.2.2)∈aM/\r.2.1<=r.2.2.2
 no:a.things=[]
 zs:∀w∈ws,Z w.since
 nr:a.near=eG
 pt:a.pat=pat
 ask:∀w∈ws,w.asked≠[]
theorem jE {j k:Nat}(h:fq j=fq k):j=k:=by have:=List.cons.inj (List.cons.inj (D.tup.inj h)).2;have:=D.int.inj this.1;omega
theorem EU {l:List D}{k:Nat}{e y:D}(hy:d9 l.length y):(jH e l y)[k]?=if y=fq k then some e else l[k]?:=by
 rcases hy with⟨i,rfl⟩|⟨j,rfl,hj⟩
 .rw[if_neg (λh=>by cases h)];rfl
 .show (l.set (j:Int).toNat e)[k]?=_;rw[Int.toNat_natCast]
  by_cases h:j=k
  .subst h;rw[if_pos rfl,List.getElem?_set_self hj]
  .rw[if_neg (λe=>h (jE e)),List.getElem?_set_ne h]
theorem EL {l:List D}{e y:D}(hy:d9 l.length y):(jH e l y).length=l.length:=by
 rcases hy with⟨i,rfl⟩|⟨j,rfl,hj⟩
 .rfl
 .exact List.length_set
theorem fj {e:D}{k:Nat}:∀(ys l:List D),(∀y∈ys,d9 l.length y)->(bu l ys e)[k]?=if fq k∈ys then some e else l[k]?
 | [],l,_=>by simp[bu]
 | y::ys,l,h=>by
  have hy:=h y List.mem_cons_self;show (bu (jH e l y) ys e)[k]?=_;rw[fj ys _ λz hz=>by rw[EL hy];exact h z (List.mem_cons_of_mem _ hz),EU hy]
  by_cases h1:fq k∈ys
  .rw[if_pos h1,if_pos (List.mem_cons_of_mem _ h1)]
  .rw[if_neg h1]
   by_cases h2:y=fq k
   .rw[if_pos h2,if_pos (by rw[h2];exact List.mem_cons_self)]
   .rw[if_neg h2,if_neg λh=>(List.mem_cons.mp h).elim (λe=>h2 e.symm) h1]
variable {asks:List (D×Int)}{aM:List Row}{now pat:Int}{Z:Int->Prop}{E0:List D}{hl:D}{a:HA}{ws:List WA}
noncomputable def rH (aM:List Row)(now:Int)(x e:D):Prop:=e = .tup [.aj]\/∃v u,e = .tup [.int v]/\(x,v,u)∈aM/\now<=u
theorem rH.ne {x e:D}(h:rH aM now x e):e ≠ .tup []:=by rcases h with rfl | ⟨v,u,rfl,_⟩<;>exact λh=>by cases h
theorem wB (hn:(ws.map λp=>p.nm).Nodup){w z:WA}(hw:w∈ws)(hz:z∈ws)(e:w.nm=z.nm):w=z:=by
 induction ws with
 | nil=>cases hw
 | cons y ws ih=>
  rw[List.map_cons,List.nodup_cons] at hn;rcases List.mem_cons.mp hw with h1 | h1<;>rcases List.mem_cons.mp hz with h2 | h2
  .rw[h1,h2]
  .exact absurd (List.mem_map.mpr ⟨z,h2,by rw[<-e,h1]⟩) hn.1
  .exact absurd (List.mem_map.mpr ⟨w,h1,by rw[e,h2]⟩) hn.1
  .exact ih hn.2 h1 h2
theorem J.tell {w:WA}{ys:List D}{e:D}(j:J asks aM now pat Z E0 .aj a ws)(hn:(ws.map λp=>p.nm).Nodup)(hw:w∈ws)(hy:∀y∈ys,d9 a.ends.length y)(hk:∀k,fq k∈ys↔fq k∈w.aJ)(he:rH aM now w.nm e):J asks aM now pat Z E0 .aj { a with ends:=bu a.ends ys e } (ws.filter λz=>decide (z.nm≠w.nm)):=by
 obtain⟨el,fW,own,old,new,kept,aZ,no,zs,nr,pt,ask⟩:=j;have hs:∀z∈ws.filter (λz=>decide (z.nm≠w.nm)),z∈ws/\z.nm≠w.nm:=λz hz=>⟨(List.mem_filter.mp hz).1,by simpa using(List.mem_filter.mp hz).2⟩;refine⟨by rw[<-el];exact d5 _ _ _,λk p hp h0 cN=>?_,λz hz k hm=>?_,λk e' h0 cN=>?_,λk e' p h0 hp h1=>?_,kept,aZ,no,λz hz=>zs z (hs z hz).1,nr,pt,λz hz=>ask z (hs z hz).1⟩
 .dsimp only at h0;rw[fj ys _ hy] at h0;split at h0
  .cases h0;exact absurd rfl he.ne
  .rename_i hnk;obtain⟨z,hz,z1,z2,z3⟩:=fW k p hp h0 cN;refine⟨z,List.mem_filter.mpr ⟨hz,decide_eq_true λe=>hnk ?_⟩,z1,z2,z3⟩;rw[wB hn hz hw e] at z2;exact(hk k).mpr z2
 .obtain⟨h1,h2⟩:=hs z hz;obtain⟨h3,h4,p,h5,h6⟩:=own z h1 k hm;refine⟨h3,?_,p,h5,h6⟩;dsimp only;rw[fj ys _ hy,if_neg λh=>?_]
  .exact h4
  .obtain⟨_,_,q,h7,h8⟩:=own w hw k ((hk k).mp h);rw[h5] at h7;cases h7;exact h2 (h6.symm.trans h8)
 .dsimp only;rw[fj ys _ hy,if_neg λh=>?_]
  .exact old k e' h0 cN
  .have:=(own w hw k ((hk k).mp h)).2.1;rw[old k e' h0 cN] at this;cases this;exact cN rfl
 .dsimp only at h0;rw[fj ys _ hy] at h0;split at h0
  .rename_i h;obtain⟨_,_,q,h7,h8⟩:=own w hw k ((hk k).mp h);rw[hp] at h7;cases h7;cases h0;rw[h8];exact Or.inr he
  .exact new k e' p h0 hp h1
theorem J.one {k x e:D}(j:J asks aM now pat Z E0 k a ws)(hk:(∃i,k = .int i)\/∃m p,k=fq m/\asks[m]?=some p/\p.1=x/\a.ends[m]?=some (.tup []))(he:rH aM now x e):J asks aM now pat Z E0 .aj { a with ends:=bu a.ends [k] e } ws:=by
 have hy:∀y∈[k],d9 a.ends.length y:=λy hy=>by
  rw[List.mem_singleton.mp hy];rcases hk with hk | ⟨m,p,e1,_,_,e2⟩
  .exact Or.inl hk
  .exact Or.inr ⟨m,e1,(List.getElem?_eq_some_iff.mp e2).1⟩
 obtain⟨el,fW,own,old,new,kept,aZ,no,zs,nr,pt,ask⟩:=j;refine⟨by rw[<-el];exact d5 _ _ _,λi p hp h0 _=>?_,λz hz i hm=>?_,λi e' h0 cN=>?_,λi e' p h0 hp h1=>?_,kept,aZ,no,zs,nr,pt,ask⟩
 .dsimp only at h0;rw[fj _ _ hy] at h0;split at h0
  .cases h0;exact absurd rfl he.ne
  .rename_i h;exact fW i p hp h0 λe=>h (by rw[e];exact List.mem_singleton_self _)
 .obtain⟨h1,h2,h3⟩:=own z hz i hm;refine⟨(λh=>by cases h),?_,h3⟩;dsimp only;rw[fj _ _ hy,if_neg λh=>h1 (List.mem_singleton.mp h)];exact h2
 .dsimp only;rw[fj _ _ hy,if_neg λh=>?_]
  .exact old i e' h0 cN
  .rcases hk with⟨s,rfl⟩|⟨m,p,rfl,_,_,h4⟩
   .cases List.mem_singleton.mp h
   .have:=jE (List.mem_singleton.mp h);subst this;rw[old _ e' h0 cN] at h4;cases h4;exact cN rfl
 .dsimp only at h0;rw[fj _ _ hy] at h0;split at h0
  .rename_i h;rcases hk with⟨s,rfl⟩|⟨m,q,rfl,h2,h3,h4⟩
   .cases List.mem_singleton.mp h
   .have:=jE (List.mem_singleton.mp h);subst this;rw[hp] at h2;cases h2;cases h0;rw[h3];exact Or.inr he
  .exact new i e' p h0 hp h1
theorem J.Gg {K:List Row}(j:J asks aM now pat Z E0 hl a ws)(h:∀r∈K,r∈a.kept):J asks aM now pat Z E0 hl { a with kept:=K } ws:=by obtain⟨el,fW,own,old,new,kept,aZ,no,zs,nr,pt,ask⟩:=j;exact⟨el,fW,own,old,new,λr hr=>kept r (h r hr),aZ,no,zs,nr,pt,ask⟩
theorem Ai {x:D}{r:Row}(hr:r∈cy a x now):r∈a.kept:=by
 unfold cy at hr;split at hr
 .exact hr
 .unfold eU at hr;split at hr
  .rename_i q hq;rcases List.mem_append.mp hr with h | h
   .exact(d6 _ _).subset h
   .rw[List.mem_singleton.mp h];exact(qo hq).1
  .exact hr
theorem J.found {x:D}{v u:Int}(j:J asks aM now pat Z E0 hl a ws)(h:iX a x now=some (v,u)):(x,v,u)∈aM/\now<=u:=by
 unfold iX at h;rw[j.no] at h
 change (match gK a.kept x now with | some r=>some r.2 | none=>(rB a x now).map λr:D×Int×Int×Int=>r.2.2)=_ at h
 cases hg:gK a.kept x now with
 | some r=>
  rw[hg] at h;obtain⟨h1,h2,h3⟩:=qo hg;have e:r.2=(v,u):=Option.some.inj h;have:r=(x,v,u):=by rw[<-h2,<-e]
  rw[this] at h1 h3;exact⟨j.kept _ h1,by dsimp only at h3;omega⟩
 | none=>
  rw[hg] at h;dsimp only at h;cases hh:rB a x now with
  | none=>rw[hh] at h;cases h
  | some r=>
   rw[hh] at h;have e:r.2.2=(v,u):=Option.some.inj h;have h1:=List.mem_of_find?_eq_some hh;have h2:(ij r).1 = .tup [x,.int now]:=by simpa using List.find?_some hh
   have h3:=List.cons.inj (D.tup.inj h2);have h4:=D.int.inj (List.cons.inj h3.2).1;obtain⟨h5,h6⟩:=j.aZ r h1;rw[h3.1,e] at h5;rw[e,h4] at h6;exact⟨h5,h6⟩
theorem xj {x:D}{y:WA}:y∈iM ws x y:=by
 unfold iM;split
 .rename_i h;obtain⟨z,hz,e⟩:=List.any_eq_true.mp h;exact List.mem_map.mpr ⟨z,hz,if_pos (of_decide_eq_true e)⟩
 .simp
theorem EN {x:D}{y z:WA}(hz:z∈ws)(hn:z.nm≠x):z∈iM ws x y:=by
 unfold iM;split
 .exact List.mem_map.mpr ⟨z,hz,if_neg hn⟩
 .exact List.mem_append.mpr (Or.inl hz)
theorem sD {aJ:List D}{k z:D}:z∈aT aJ k↔z∈aJ\/z=k:=by
 unfold aT;split
 .rename_i h;exact⟨Or.inl,λh'=>h'.elim id λe=>e ▸ h⟩
 .simp
theorem J.Oz {k x:D}(j:J asks aM now pat Z E0 k a ws)(hn:(ws.map λp=>p.nm).Nodup)(hk:(∃i,k = .int i)\/∃m p,k=fq m/\asks[m]?=some p/\p.1=x/\a.ends[m]?=some (.tup [])/\now<=p.2)(hz:Z now)(hZ:∀i,Z i->i<=now):J asks aM now pat Z E0 .aj (hX a ws k x now).1 (hX a ws k x now).2.1:=by
 have hk':(∃i,k = .int i)\/∃m p,k=fq m/\asks[m]?=some p/\p.1=x/\a.ends[m]?=some (.tup []):=hk.imp id λ⟨m,p,h1,h2,h3,h4,_⟩=>⟨m,p,h1,h2,h3,h4⟩;have j1:=j.Gg (K:=cy a x now) λr hr=>Ai hr;unfold hX;cases hf:iX a x now with
 | some p=>obtain⟨v,u⟩:=p;exact j1.one hk' (Or.inr ⟨v,u,rfl,j.found hf⟩)
 | none=>
  dsimp only;split
  .exact j1.one hk' (Or.inl rfl)
  .rename_i cN;obtain⟨el,fW,own,old,new,kept,aZ,no,zs,nr,pt,ask⟩:=j1;obtain⟨hnm,hw⟩:=y7 (ws:=ws) (x:=x) (now:=now);have zD:Z (waitOf ws x now).since:=hw.elim (λh=>zs _ h) λ⟨_,e⟩=>by rw[e];exact hz
   refine⟨el,λi p hp h0 _=>?_,λz nZ i hm=>?_,old,new,kept,aZ,no,λz nZ=>?_,nr,pt,λz nZ=>?_⟩
   .by_cases hi:fq i=k
    .rcases hk with⟨s,rfl⟩|⟨m,q,rfl,h1,h2,_,h3⟩
     .cases hi
     .have:=jE hi;subst this;rw[hp] at h1;cases h1;exact⟨_,xj,by show (waitOf ws x now).nm=_;rw[hnm,h2],sD.mpr (Or.inr rfl),by show (waitOf ws x now).since<=_;have:=hZ _ zD;omega⟩
    .obtain⟨z,h1,h2,h3,h4⟩:=fW i p hp h0 hi
     by_cases hx:z.nm=x
     .have e:z=waitOf ws x now:=by
       rcases hw with hw | ⟨hw,_⟩
       .exact wB hn h1 hw (by rw[hx,hnm])
       .exact absurd hx (hw z h1)
      subst e;exact⟨_,xj,h2,sD.mpr (Or.inl h3),h4⟩
     .exact⟨z,EN h1 hx,h2,h3,h4⟩
   .rcases lJ nZ with rfl | nZ
    .rcases sD.mp hm with hm | hm
     .rcases hw with hw | ⟨_,hw⟩
      .obtain⟨_,h2,h3⟩:=own _ hw i hm;exact⟨(λh=>by cases h),h2,h3⟩
      .rw[hw] at hm;cases hm
     .rcases hk with⟨s,rfl⟩|⟨m,q,rfl,h1,h2,h3,_⟩
      .cases hm
      .have:=jE hm;subst this;exact⟨(λh=>by cases h),h3,q,h1,by show q.1=(waitOf ws x now).nm;rw[hnm,h2]⟩
    .obtain⟨_,h2,h3⟩:=own z nZ i hm;exact⟨(λh=>by cases h),h2,h3⟩
   .rcases lJ nZ with rfl | nZ
    .exact zD
    .exact zs z nZ
   .rcases lJ nZ with rfl | nZ
    .exact cN
    .exact ask z nZ
theorem J.hole {k:D}(j:J asks aM now pat Z E0 .aj a ws)(hk:∀i,fq i≠k):J asks aM now pat Z E0 k a ws:=by obtain⟨el,fW,own,old,new,kept,aZ,no,zs,nr,pt,ask⟩:=j;exact⟨el,λi p h1 h2 _=>fW i p h1 h2 (λh=>by cases h),λz hz i hm=>⟨hk i,(own z hz i hm).2⟩,old,new,kept,aZ,no,zs,nr,pt,ask⟩
theorem J.eO {s:Int}{x:D}{B:Nat}(j:J asks aM now pat Z E0 .aj a ws)(ho:aL a ws B):J asks aM now pat Z E0 .aj (eO a ws s x).1 (eO a ws s x).2.1:=by
 have hA:=E7 (a:=a) (s:=s) (x:=x) j.ask;unfold Q42.eO at hA ⊢;cases hf:ws.find? λy=>decide (y.nm=x) with
 | none=>exact j
 | some y=>
  rw[hf] at hA;have hy:=List.mem_of_find?_eq_some hf;have hn:y.nm=x:=by simpa using List.find?_some hf
  subst hn;dsimp only at hA ⊢;split
  .split
   .exact j.tell ho.wn hy (ho.wk y hy).aJ (λ_=>Iff.rfl) (Or.inl rfl)
   .rename_i h1 h2;rw[if_pos h1,if_neg h2] at hA;have hm:∀z∈(ws.map λz=>if z.nm=y.nm then jS y s else z),∃q∈ws,z.nm=q.nm/\z.aJ=q.aJ/\z.since=q.since:=λz hz=>by
     obtain⟨q,hq,e⟩:=List.mem_map.mp hz;split at e
     .exact⟨y,hy,by rw[<-e],by rw[<-e],by rw[<-e]⟩
     .exact⟨q,hq,by rw[<-e],by rw[<-e],by rw[<-e]⟩
    obtain⟨el,fW,own,old,new,kept,aZ,no,zs,nr,pt,ask⟩:=j;refine⟨el,λi p hp h0 cN=>?_,λz hz i uH=>?_,old,new,kept,aZ,no,λz hz=>?_,nr,pt,hA⟩
    .obtain⟨z,z1,z2,z3,z4⟩:=fW i p hp h0 cN
     by_cases e:z.nm=y.nm
     .have:=wB ho.wn z1 hy e;subst this;exact⟨jS z s,List.mem_map.mpr ⟨z,z1,if_pos rfl⟩,z2,z3,z4⟩
     .exact⟨z,List.mem_map.mpr ⟨z,z1,if_neg e⟩,z2,z3,z4⟩
    .obtain⟨q,hq,q1,q2,q3⟩:=hm z hz;rw[q2] at uH;rw[q1];exact own q hq i uH
    .obtain⟨q,hq,q1,q2,q3⟩:=hm z hz;rw[q3];exact zs q hq
  .exact j
theorem J.ND {s v u:Int}{x:D}{B:Nat}(j:J asks aM now pat Z E0 .aj a ws)(ho:aL a ws B)(ht:(x,v,u)∈aM):J asks aM now pat Z E0 .aj (dX a ws s x v u now).1 (dX a ws s x v u now).2.1:=by
 unfold dX;split
 .exact j.eO ho
 rename_i hu;cases hf:ws.find? λy=>decide (y.nm=x) with
 | none=>exact j
 | some y=>
  have hy:=List.mem_of_find?_eq_some hf;have hn:y.nm=x:=by simpa using List.find?_some hf
  subst hn;dsimp only;split
  .have j1:=j.tell (ys:=y.aJ.filter λz=>decide (z ≠ .int s)) ho.wn hy (λz hz=>(ho.wk y hy).aJ z (List.mem_filter.mp hz).1) (λk=>⟨λh=>(List.mem_filter.mp h).1,λh=>List.mem_filter.mpr ⟨h,decide_eq_true λh=>by cases h⟩⟩) (Or.inr ⟨v,u,rfl,ht,by omega⟩:rH aM now y.nm (.tup [.int v]));obtain⟨el,fW,own,old,new,kept,aZ,no,zs,nr,pt,ask⟩:=j1;refine⟨el,fW,own,old,new,λr hr=>?_,λr hr=>?_,no,zs,nr,pt,ask⟩
   .have hc:r∈a.kept\/r=(y.nm,v,u):=by
     have hd:∀r∈(if u > now then bp a.kept y.nm++[(y.nm,v,u)] else bp a.kept y.nm),r∈a.kept\/r=(y.nm,v,u):=λr hr=>by
      split at hr
      .rcases List.mem_append.mp hr with h | h
       .exact Or.inl ((d6 _ _).subset h)
       .exact Or.inr (List.mem_singleton.mp h)
      .exact Or.inl ((d6 _ _).subset hr)
     have hr:r∈iK a.room a.kept y.nm v u now:=hr;unfold iK at hr;generalize (if u > now then bp a.kept y.nm++[(y.nm,v,u)] else bp a.kept y.nm)=w at hr hd;split at hr
     .exact hd r ((List.drop_sublist _ _).subset hr)
     .exact hd r hr
    rcases hc with h | rfl
    .exact kept r h
    .exact ht
   .have hr:r∈jP a.aZ y.nm now v u:=hr;unfold jP at hr;split at hr
    .obtain⟨q,hq,e⟩:=List.mem_map.mp hr;split at e
     .rename_i h2;have h3:=List.cons.inj (D.tup.inj h2);have h4:=D.int.inj (List.cons.inj h3.2).1;rw[<-e];dsimp only;rw[h3.1,h4];exact⟨ht,by omega⟩
     .rw[<-e];exact aZ q hq
    .rcases List.mem_append.mp hr with h | h
     .exact aZ r h
     .rw[List.mem_singleton.mp h];exact⟨ht,by dsimp only;omega⟩
  .exact j
end Q42
section
namespace Q42
open RF PySem
local macro_rules
 | `(tactic| ac_rfl)=>`(tactic| first
  | with_reducible assumption | with_reducible exact bt _ _ | ((with_reducible apply dk);ac_rfl) | ((with_reducible apply cG);ac_rfl) | ((with_reducible apply gH);(· ac_rfl);(· (try simp only[List.length_set,List.length_append,List.length_cons,List.length_nil]);omega)))
local macro_rules
 | `(tactic| rfl')=>`(tactic| repeat (first
 | with_reducible apply aQ | with_reducible apply bH | with_reducible apply jC | with_reducible apply k8 | with_reducible apply f6 | with_reducible apply gy | with_reducible apply rF | with_reducible apply xq | with_reducible apply wg | with_reducible apply rP | with_reducible apply qH | with_reducible apply qG | with_reducible apply l5
 | ((with_reducible apply wF);· rfl) | with_reducible apply FG | with_reducible apply xa | with_reducible apply rb | with_reducible apply zS | with_reducible apply vM | with_reducible apply zJ | with_reducible apply wq_not | with_reducible apply Cu | with_reducible apply GA | with_reducible apply wq_chain | with_reducible apply GV | with_reducible apply hU | with_reducible apply eC | ((with_reducible refine w5 ?_ ?_);· rfl) | ((with_reducible refine wY ?_ ?_);· rfl) | with_reducible apply sx | with_reducible apply wp_call
 | with_reducible apply nK | with_reducible apply sY | ((with_reducible apply pZ);· rfl) | with_reducible apply vA | with_reducible apply qj | with_reducible apply sV | with_reducible apply sW | with_reducible apply B4 | with_reducible apply iZ | with_reducible apply nL
 | with_reducible apply CA | with_reducible apply B2 | with_reducible apply yX | with_reducible apply CI | with_reducible apply C8 | with_reducible apply BJ | with_reducible apply C5 | with_reducible apply yr | with_reducible apply Bu
 | with_reducible apply tb | with_reducible apply JT | with_reducible apply l8 | with_reducible apply ji | with_reducible apply FF | with_reducible apply J7
 | with_reducible apply Dh | ((with_reducible apply Bq);(· ac_rfl)) | with_reducible apply KZ | with_reducible apply G3 | with_reducible apply LY | with_reducible apply JX | with_reducible apply LL | with_reducible apply LD | with_reducible apply Ln | with_reducible apply ne_i
 | ((with_reducible apply ze);(· ac_rfl);(· rfl)) | ((with_reducible apply mo);(· ac_rfl);(· rfl)) | ((with_reducible apply lo);(· ac_rfl)) | ((with_reducible apply Oq);(· ac_rfl)) | ((with_reducible apply Ot);(· ac_rfl)) | ((with_reducible apply Oo);(· ac_rfl)) | ((with_reducible apply LA);(· ac_rfl)) | ((with_reducible apply Kx);(· ac_rfl)) | ((with_reducible apply uZ);· rfl) | ((with_reducible apply GQ);· rfl) | ((with_reducible apply G2);· rfl) | ((with_reducible apply jL);(· ac_rfl);(· rfl)) | ((with_reducible apply MR);(· ac_rfl))
 | ((with_reducible apply ak (r:=gw _ _ _ _));· rfl)))
section
theorem Ia (n d:Nat)(S:ae)(hd:cY d S):Wp ((ag P (n+3)).f 24 [.ref d] S) λv S'=>∃room pat:Int,v = .tup [.int room,.int pat]/\0<=room/\room<=4/\1<=pat/\pat<=20/\cY d S'/\Fr (· = d) S S':=by
 rw[uY];apply aH;unfold mv;rfl';refine wp_mono (cC n d 5 _ hd (by decide) (by decide)) λv S1 ⟨⟨r,er,r1,r2⟩,fI,ff⟩=>?_;subst er;rfl';refine wp_mono (cC n d 4 _ fI (by decide) (by decide)) λv S2 ⟨⟨i,ei,i1,i2⟩,hd2,lH⟩=>?_;subst ei;rfl';refine wp_mono (cC n d 20 _ hd2 (by decide) (by decide)) λv S3 ⟨⟨j,ej,j1,j2⟩,gT,gE⟩=>?_;subst ej;rfl';refine wp_mono (cC n d 2 _ (gT.fr (Fr.app no S3 _) λh=>h) (by decide) (by decide)) λv S4 ⟨⟨q,eq,q1,q2⟩,sr,pQ⟩=>?_;subst eq;obtain⟨y,e,hm⟩:=kS (xs:=[D.int i,D.int j]) q1 q2;have cN:S3.length≠d:=λe=>by have:=gT.lt;omega
 refine vb (pQ.at (bt _ _) cN) e ?_;have:∃z,y = .int z/\0<=z/\z<20:=by
  rcases(by simpa using hm:y = .int i\/y = .int j) with rfl|rfl
  .exact⟨i,rfl,i1,by omega⟩
  .exact⟨j,rfl,j1,j2⟩
 obtain⟨z,rfl,z1,z2⟩:=this;rfl';refine⟨r,1+z,rfl,r1,by omega,by omega,by omega,sr,(((ff.trans lH λ_ _ h=>h).trans gE λ_ _ h=>h).trans (Fr.app no _ _) λ_ _ h=>h.elim).trans pQ λ_ _ h=>h⟩
noncomputable def z7 (kd:Str)(tl:List D):Prop:=kd = "ask"/\tl=[]\/kd = "no"/\tl=[]\/kd = "thing"/\∃w u:Int,tl=[.int w,.int u]/\0<=w/\w<=999/\0<=u
theorem sy (n d:Nat)(now:Int)(S:ae)(hd:cY d S):Wp ((ag P (n+5)).f 23 [.ref d,.int now] S) λv S'=>(∃kd x tl,v = .tup (.str kd::x::tl)/\aN x/\z7 kd tl)/\cY d S'/\Fr (· = d) S S':=by
 rw[oN];apply aH;unfold jn;rfl';refine wp_mono (pw n d _ hd) λx S1 ⟨hx,fI,ff⟩=>?_;rfl';refine wp_mono (cC (n+2) d 4 _ fI (by decide) (by decide)) λv S2 ⟨⟨r,er,r1,r2⟩,hd2,lH⟩=>?_;subst er;have f2:=ff.trans lH λ_ _ h=>h;rfl';refine eJ (λ_=>?_) (λ_=>?_)
 .rfl';exact⟨⟨_,x,[],rfl,hx,Or.inl ⟨rfl,rfl⟩⟩,hd2,f2⟩
 rfl';refine eJ (λ_=>?_) (λ_=>?_)
 .rfl';refine wp_mono (cC (n+2) d 1000 _ hd2 (by decide) (by decide)) λv S3 ⟨⟨w,ew,w1,w2⟩,gT,gE⟩=>?_;subst ew;rfl';refine wp_mono (cC (n+2) d 8 _ gT (by decide) (by decide)) λv S4 ⟨⟨u,eu,u1,u2⟩,sr,pQ⟩=>?_;subst eu;rfl';refine ak (a:=.int (if now+u-2 > 0 then now+u-2 else 0)) (S:=S4) rfl ?_;rfl';refine⟨⟨_,x,_,rfl,hx,Or.inr (Or.inr ⟨rfl,w,_,rfl,w1,by omega,by split<;>omega⟩)⟩,sr,(f2.trans gE λ_ _ h=>h).trans pQ λ_ _ h=>h⟩
 .rfl';exact⟨⟨_,x,[],rfl,hx,Or.inr (Or.inl ⟨rfl,rfl⟩)⟩,hd2,f2⟩
variable {asks:List (D×Int)}{aM:List Row}{now pat:Int}{Z:Int->Prop}{E0:List D}{hl:D}{a:HA}{ws:List WA}
theorem J.turn {now':Int}{Z':Int->Prop}(j:J asks aM now pat Z E0 hl a ws)(hZ:∀s,Z s->Z' s):J asks aM now' pat Z' a.ends hl a ws:=by obtain⟨el,fW,own,old,new,kept,aZ,no,zs,nr,pt,ask⟩:=j;exact⟨el,fW,own,λ_ _ h _=>h,λk e p h1 _ h2=>Or.inl (by rw[h1] at h2;exact Option.some.inj h2),kept,aZ,no,λw hw=>hZ _ (zs w hw),nr,pt,ask⟩
theorem J.z {Z':Int->Prop}(j:J asks aM now pat Z E0 hl a ws)(hZ:∀w∈ws,Z w.since->Z' w.since):J asks aM now pat Z' E0 hl a ws:=by obtain⟨el,fW,own,old,new,kept,aZ,no,zs,nr,pt,ask⟩:=j;exact⟨el,fW,own,old,new,kept,aZ,no,λw hw=>hZ w hw (zs w hw),nr,pt,ask⟩
theorem J.more {T:List Row}(j:J asks aM now pat Z E0 hl a ws):J asks (aM++T) now pat Z E0 hl a ws:=by obtain⟨el,fW,own,old,new,kept,aZ,no,zs,nr,pt,ask⟩:=j;have hm:∀{r:Row},r∈aM->r∈aM++T:=λh=>List.mem_append.mpr (Or.inl h);exact⟨el,fW,own,old,λk e p h1 h2 h3=>(new k e p h1 h2 h3).imp id (Or.imp id λ⟨v,u,q1,q2,q3⟩=>⟨v,u,q1,hm q2,q3⟩),λr hr=>hm (kept r hr),λr hr=>⟨hm (aZ r hr).1,(aZ r hr).2⟩,no,zs,nr,pt,ask⟩
theorem J.asked {x:D}(j:J asks aM now pat Z a.ends .aj a ws):J (asks++[(x,now)]) aM now pat Z (a.ends++[.tup []]) (fq a.ends.length) { a with ends:=a.ends++[.tup []] } ws:=by
 obtain⟨el,fW,own,old,new,kept,aZ,no,zs,nr,pt,ask⟩:=j;refine⟨by simp[el],λk p hp h0 hk=>?_,λw hw k hm=>?_,λk e h _=>h,λk e p h1 _ h2=>Or.inl (by rw[h1] at h2;exact Option.some.inj h2),kept,aZ,no,zs,nr,pt,ask⟩
 .have cN:k≠a.ends.length:=λe=>hk (by rw[e]);have de:k<a.ends.length:=by have:=(List.getElem?_eq_some_iff.mp h0).1;simp at this;omega
  rw[List.getElem?_append_left (by omega)] at hp;dsimp only at h0;rw[List.getElem?_append_left de] at h0;exact fW k p hp h0 λh=>by cases h
 .obtain⟨_,h2,p,h3,h4⟩:=own w hw k hm;have de:=(List.getElem?_eq_some_iff.mp h2).1;refine⟨λe=>by have:=jE e;omega,?_,p,by rw[List.getElem?_append_left (by omega)];exact h3,h4⟩;dsimp only;rw[List.getElem?_append_left de];exact h2
noncomputable def rW (kd:Str)(x:D)(tl:List D):List Row:=match tl with
 | [.int w,.int u]=>[(x,w,u)]
 | _=>[]
theorem Fs {n h:Nat}{L:WL}{B:Nat}{kd:Str}{x:D}{tl:List D}{s:Int}{S:ae}(hh:br S h a L)(ho:aL a (L.map (·.1)) B)(hB:B+1<=100000)(j:J asks aM now pat Z E0 .aj a (L.map (·.1)))(hx:aN x)(hk:z7 kd tl)(hw:0<=now)(hs:s∈eG)(hz:Z now)(hZ:∀i,Z i->i<=now):
 Wp ((ag P (n+8)).m 3 9 [.ref h,.int s,.tup (.str kd::x::tl),.int now] S) λv S'=>∃a' L',br S' h a' L'/\aL a' (L'.map (·.1)) (B+1)/\J asks (aM++rW kd x tl) now pat Z E0 .aj a' (L'.map (·.1))/\Fr (In h L) S S'/\∀p∈L',(∃q∈L,q.2=p.2)\/S.length<=p.2:=by
 have zD:s∈a.near:=by rw[j.nr];exact hs
 have hA:∀p∈L,p.1.asked≠[]:=λp hp=>j.ask p.1 (List.mem_map.mpr ⟨p,hp,rfl⟩);rcases hk with⟨rfl,rfl⟩|⟨rfl,rfl⟩|⟨rfl,w,u,rfl,w1,w2,u1⟩
 .refine wp_mono (x4 hh ho hA hx hw zD) λv S' ⟨L',e,r,_,_,_,h1,h2,h3,_⟩=>⟨_,L',h1,?_,?_,h2,h3⟩
  .rw[e];exact yS ho hB hx (Or.inl ⟨s,rfl⟩)
  .rw[e];simp only[rW,List.append_nil];exact(j.hole λi h=>by cases h).Oz ho.wn (Or.inl ⟨s,rfl⟩) hz hZ
 .refine wp_mono (zX hh ho hB hx hw zD) λv S' ⟨L',e,r,_,_,_,h1,h2,h3,_⟩=>⟨_,L',h1,?_,?_,h2,h3⟩
  .rw[e];exact BX ho hB
  .rw[e];simp only[rW,List.append_nil];exact j.eO ho
 .refine wp_mono (uV hh ho hB hx hw zD w1 w2 u1) λv S' ⟨L',e,r,_,_,_,h1,h2,h3,_⟩=>⟨_,L',h1,?_,?_,h2,h3⟩
  .rw[e];exact AI ho hB hx
  .rw[e];exact j.more.ND ho (List.mem_append.mpr (Or.inr List.mem_cons_self))
end
section
noncomputable abbrev dG (r0:Option D)(d:Nat)(room pat:Int)(nr:Nat)(now:Int)(h:Nat)(r9 bE r11 bR bS bK bM bI a6:Option D):RF.Env:=[r0,some (.ref d),some (.tup [.int room,.int pat]),some (.ref nr),some (.int now),some (.ref h),some (.ref (h+10)),some (.ref (h+11)),some (.ref (h+12)),r9,bE,r11,bR,bS,bK,bM,bI,a6]
noncomputable def Fq (k:Nat)(p:D×Int):D:=.tup [.int k,p.1,.int p.2]
noncomputable def fk (asks:List (D×Int)):List D:=asks.mapIdx Fq
noncomputable def BF (r:Row):D:=i8 r.1 r.2.1 r.2.2
structure LQ (S0 S:ae)(d h:Nat)(asks:List (D×Int))(aM:List Row)(af:List (D×D))(B:Nat)(a:HA)(L:WL):Prop where
 di:cY d S
 mN:d<10
 mO:10<=h
 hh:br S h a L
 ho:aL a (L.map (·.1)) B
 lo:∀p∈L,h+13<=p.2
 gq:S[h+10]?=some (.lst (fk asks))
 gg:S[h+11]?=some (.aG af)
 gt:S[h+12]?=some (.lst (aM.map BF))
 fr:Fr (λi=>i=d\/10<=i) S0 S
 an:∀p∈asks,aN p.1
 al:asks.length<=B
 tn:∀r∈aM,aN r.1
 tl:aM.length<=B
 kl:af.length<=200*B
variable {S0 S S':ae}{d h:Nat}{asks:List (D×Int)}{aM:List Row}{af:List (D×D)}{B:Nat}{a:HA}{L:WL}{now pat:Int}{Z:Int->Prop}{E0:List D}
theorem LQ.yo (s:LQ S0 S d h asks aM af B a L){i:Nat}(hi:i<10\/(h+10<=i/\i<h+13)):¬In h L i:=by
 have:=s.mO;rintro (h1 | ⟨p,hp,h1,h2⟩)
 .omega
 .have:=s.lo p hp;omega
theorem LQ.lU (s:LQ S0 S d h asks aM af B a L)(hd:cY d S')(hf:Fr (· = d) S S'):LQ S0 S' d h asks aM af B a L:=by have hn:=s.yo (Or.inl s.mN);obtain⟨di,mN,mO,hh,ho,lo,gq,gg,gt,fr,an,al,tn,tl,kl⟩:=s;exact⟨hd,mN,mO,hh.fr hf λi hi e=>hn (e ▸ hi),ho,lo,hf.at gq (by omega),hf.at gg (by omega),hf.at gt (by omega),fr.trans hf λ_ _ h=>Or.inl h,an,al,tn,tl,kl⟩
theorem LQ.app {T:ae}(s:LQ S0 S d h asks aM af B a L):LQ S0 (S++T) d h asks aM af B a L:=s.lU (s.di.fr (Fr.app no S T) λh=>h) (Fr.app _ S T)
theorem LQ.GB {a':HA}{L':WL}{B':Nat}(s:LQ S0 S d h asks aM af B a L)(hh:br S' h a' L')(ho:aL a' (L'.map (·.1)) B')(hB:B<=B')(hf:Fr (In h L) S S')(hl:∀p∈L',(∃q∈L,q.2=p.2)\/S.length<=p.2):LQ S0 S' d h asks aM af B' a' L':=by
 have hn:=s.yo (Or.inl s.mN);have n0:=s.yo (i:=h+10) (Or.inr (by omega));have n1:=s.yo (i:=h+11) (Or.inr (by omega));have n2:=s.yo (i:=h+12) (Or.inr (by omega));obtain⟨di,mN,mO,hh0,ho0,lo,gq,gg,gt,fr,an,al,tn,tl,kl⟩:=s;have:=fi gt;refine⟨di.fr hf hn,mN,mO,hh,ho,λp hp=>?_,hf.at gq n0,hf.at gg n1,hf.at gt n2,fr.trans hf λi _ hi=>Or.inr ?_,an,by omega,tn,by omega,by omega⟩
 .rcases hl p hp with⟨q,hq,e⟩ | h1
  .rw[<-e];exact lo q hq
  .omega
 .rcases hi with hi | ⟨p,hp,h1,h2⟩
  .omega
  .have:=lo p hp;omega
theorem LQ.ic {n:Nat}{o:O}(s:LQ S0 S d h asks aM af B a L)(hn:h+10<=n/\n<h+13):br (S.set n o) h a L/\cY d (S.set n o)/\Fr (λi=>i=d\/10<=i) S0 (S.set n o):=by have hf:Fr (· = n) S (S.set n o):=Fr.set _ _ _ _ rfl;have h1:=s.mN;have h2:=s.mO;exact⟨s.hh.fr hf λi hi e=>s.yo (Or.inr hn) (e ▸ hi),s.di.fr hf (by omega),dn s.fr λ_=>Or.inr (by omega)⟩
noncomputable def iJ (af:List (D×D))(E:List D):Prop:=∀p∈af,∃(k:Nat) (e:D),p=(.int k,.tup [e])/\E[k]?=some e/\e ≠ .tup []/\cf 2 e=true
noncomputable def ir (af:List (D×D))(E:List D)(n:Nat):Prop:=∀(k:Nat) (e:D),k<n->E[k]?=some e->e ≠ .tup []->(bB af (.int k)).isSome=true
theorem gI {E:List D}(h:iJ af E)(k:Nat):bX af (.int k)=true:=by
 have:af.all (λkv=>dr kv.1)=true:=List.all_eq_true.mpr λp hp=>by obtain⟨k,e,rfl,_⟩:=h p hp;rfl
 show ((true&&af.all λkv=>dr kv.1)||_)=true;rw[this];rfl
theorem IM {E:List D}(h:iJ af E){k:Nat}{v:D}(hv:bB af (.int k)=some v):∃e,v = .tup [e]/\E[k]?=some e/\e ≠ .tup []/\cf 2 e=true:=by
 unfold bB at hv;cases hf:af.find? λkv=>decide (kv.1 = .int k) with
 | none=>rw[hf] at hv;cases hv
 | some p=>
  rw[hf] at hv;obtain⟨j,e,e1,h1⟩:=h p (List.mem_of_find?_eq_some hf);have h2:p.1 = .int k:=by simpa using List.find?_some hf
  subst e1;have:=D.int.inj h2;have:j=k:=by omega
  subst this;exact⟨e,(Option.some.inj hv).symm,h1⟩
theorem Mi {k:D}(h:bB af k=none):∀p∈af,p.1≠k:=λp hp e=>by unfold bB at h;rw[Option.map_eq_none_iff,List.find?_eq_none] at h;exact h p hp (decide_eq_true e)
theorem yC {k k' v:D}(h:(bB af k).isSome=true):(bB (af++[(k',v)]) k).isSome=true:=by
 unfold bB at h ⊢;rw[List.find?_append];cases hf:af.find? λkv=>decide (kv.1=k) with
 | none=>rw[hf] at h;cases h
 | some p=>rfl
theorem val_last {k v:D}:(bB (af++[(k,v)]) k).isSome=true:=by
 unfold bB;rw[List.find?_append];cases hf:af.find? λkv=>decide (kv.1=k) with
 | some p=>rfl
 | none=>simp
noncomputable def ET:CS:=(bA (eA (aq (aC .In (aa 14) (aa 7))) (aq (aC .NotEq (bh (bh (aa 7) (aa 14)) (cE (.int 0))) (aa 16)))) (ah [(retS (cE (.bl false)))]) (ah []))
noncomputable def sP:CS:=(bA (eA (aq (aC .NotIn (aa 14) (aa 7))) (aq (aC .NotEq (aa 16) (ba [])))) (ah [(a5 17 (fG 1 (.dyn (aa 8)) [0] true (eA (aq (aC .Eq (fN (aa 0) (some (cE (.int 1))) (some (cE (.int 3)))) (ba [(aa 13),(bh (aa 17) (cE (.int 0)))]))) (aq (aC .GtE (bh (aa 0) (cE (.int 3))) (aa 5)))) (aa 0))),(bA (eA (aq (aC .NotEq (aa 16) (ba [(cE .aj)]))) (aq (aC .Eq (aa 17) (bT [])))) (ah [(retS (cE (.bl false)))]) (ah [])),(fJ (aa 7) (aa 14) (ba [(aa 16)]))]) (ah []))
noncomputable def FA:CS:=(bA (eA (aq (aC .Eq (aa 16) (ba []))) (aq (aC .GtE (bz .Sub (aa 4) (aa 15)) (bh (aa 2) (cE (.int 1)))))) (ah [(retS (cE (.bl false)))]) (ah []))
noncomputable def AN (cl:Calls):CS:=(fh (.dyn (aa 6)) [14,12,15] false (ah [(a5 16 (aF T.aS cl.m (some 10) none (aa 5) [(aa 14)])),ET,sP,FA]))
theorem CF {b lo hi:C D}{ρ:RF.Env}{Q:D->ae->Prop}(q:Wp (b ρ S) λx S1=>Wp (lo ρ S1) λy S2=>∃i,y = .int i/\Wp (hi ρ S2) λz S3=>∃k,z = .int k/\Wp (rJ x (some i) (some k) S3) Q):Wp (fN b (some lo) (some hi) ρ S) Q:=
 wp_bind (wp_mono q λx S1 q=>wp_bind (wp_bind (wp_mono q λy S2 ⟨i,e,q⟩=>by subst e;exact va (wp_bind (wp_bind (wp_mono q λz S3 ⟨k,e,q⟩=>by subst e;exact va q))))))
noncomputable def JZ (x w:D)(now:Int)(y:D):Bool:=match y with
 | .tup [_,x',v,.int u]=>decide (D.tup [x',v] = .tup [x,w])&&decide (now<=u)
 | _=>false
theorem wM {x w:D}(hx:aN x)(hw:w = .aj\/∃i,w = .int i):cf 8 (.tup [x,w])=true:=by
 have h:cf 7 x=true:=lY (DV hx) (by decide);have h':cf 7 w=true:=by rcases hw with rfl | ⟨i,rfl⟩<;>rfl
 simp only[cf,List.all_cons,List.all_nil,Bool.and_true,h,h',Bool.and_self]
theorem Ho {x w:D}{k:Nat}{since room:Int}{nr:Nat}{r0 r9 bE r11 bS a6:Option D}{K:En}(s:LQ S0 S d h asks aM af B a L)(hB:B<=200)(hx:aN x)(hw:w = .aj\/∃v u,w = .int v/\(x,v,u)∈aM/\now<=u)(hv:bB af (.int k)=none){E:List D}(hr:iJ af E)(hl:af.length<100000)
 (q:∀S' a6,br S' h a L->cY d S'->Fr (λi=>i=d\/10<=i) S0 S'->S'[h+10]?=some (.lst (fk asks))->S'[h+11]?=some (.aG (af++[(.int k,.tup [.tup [w]])]))->S'[h+12]?=some (.lst (aM.map BF))->K.nx (dG r0 d room pat nr now h r9 bE r11 (some x) bS (some (.int k)) (some (.int since)) (some (.tup [w])) a6) S'):
 Wf (sP (dG r0 d room pat nr now h r9 bE r11 (some x) bS (some (.int k)) (some (.int since)) (some (.tup [w])) a6) S) K:=by
 have gg:=s.gg;have gt:=s.gt;have htl:=s.tl;have hws:w = .aj\/∃i,w = .int i:=hw.imp id λ⟨v,_,e,_⟩=>⟨v,e⟩;have e8:cf 8 (.tup [w])=true:=by rcases hws with rfl | ⟨i,rfl⟩<;>rfl
 unfold sP;apply f6;rfl';refine qX gg (gI hr k) ?_;rw[hv];apply tb;refine l8 ?_;rfl';refine wm e8 rfl ?_;rfl';refine iN (λh=>by cases h) ?_;apply aQ;apply gy;apply lX;rfl';refine cl gt (by simp[sizeLine];omega) (JZ x w now) id (λy hy=>⟨?_,λ_=>rfl⟩) ?_
 .obtain⟨r,lF,rfl⟩:=List.mem_map.mp hy;apply bW;apply sW;apply qj;apply rb;apply CF;rfl';refine⟨1,rfl,?_⟩;rfl';refine⟨3,rfl,?_⟩;refine ak (a:=.tup [r.1,.int r.2.1]) (S:=S) rfl ?_;rfl';refine AJ (wM (s.tn r lF) (Or.inr ⟨_,rfl⟩)) (wM hx hws) ?_;rfl';refine eJ (λhc=>?_) (λhc=>?_)
  .rfl';refine⟨_,rfl,?_,rfl⟩;show _=(decide (D.tup [r.1,.int r.2.1] = .tup [x,w])&&decide (now<=r.2.2));rw[decide_eq_true hc];rfl
  .refine⟨?_,rfl⟩;show false=(decide (D.tup [r.1,.int r.2.1] = .tup [x,w])&&decide (now<=r.2.2));rw[decide_eq_false hc];rfl
 generalize hdue:((aM.map BF).filter (JZ x w now)).map id=due;have hd0:w ≠ .aj->due≠[]:=λcN e=>by
  rcases hw with h0 | ⟨v,u,rfl,hm,hu⟩
  .exact cN h0
  .rw[<-hdue,List.map_id,List.filter_eq_nil_iff] at e;refine e (BF (x,v,u)) (List.mem_map.mpr ⟨_,hm,rfl⟩) ?_;show (decide (D.tup [x,.int v] = .tup [x,.int v])&&decide (now<=u))=true;simp[hu]
 have s1:=s.app (T:=[.lst due]);have gd:=bt S (.lst due);generalize hS1:S++[.lst due]=S1 at s1 gd;have rest:∀S2,LQ S0 S2 d h asks aM af B a L->Wf (ah [(fJ (aa 7) (aa 14) (ba [(aa 16)]))] (dG r0 d room pat nr now h r9 bE r11 (some x) bS (some (.int k)) (some (.int since)) (some (.tup [w])) (some (.ref S.length))) S2) K:=λS2 s2=>by rfl';refine rQ s2.gg rfl (gI hr k) (by unfold sizeLine;omega) ?_;rfl';rw[sF (Mi hv)];obtain⟨h1,h2,h3⟩:=s2.ic (n:=h+11) (o:=.aG (af++[(.int k,.tup [.tup [w]])])) (by omega);exact q _ _ h1 h2 h3 (gH s2.gq (by omega)) (dk s2.gg) (gH s2.gt (by omega))
 show Wf (ah (_::[_]) (dG r0 d room pat nr now h r9 bE r11 (some x) bS (some (.int k)) (some (.int since)) (some (.tup [w])) (some (.ref S.length))) S1) K;apply aQ;apply f6;rfl';refine wm e8 rfl ?_;rfl';refine eJ (λhc=>?_) (λhc=>?_)
 .refine ji ?_;apply bH;exact rest S1 s1
 .rfl';refine eq_0 (cG gd) (bt _ _) ?_;rfl';refine iN (hd0 λe=>hc (by rw[e])) ?_;apply bH;exact rest _ s1.app
theorem K0 {n:Nat}{room:Int}{nr:Nat}{r0 r9 bE r11 bR bS bK bM bI a6:Option D}(s:LQ S0 S d h asks aM af B a L)(hB:B+1<=200)(j:J asks aM now pat (λi=>i<=now/\now-i<pat) E0 .aj a (L.map (·.1)))(hE:E0.length=asks.length)(h0:iJ af E0)(hc:ir af E0 asks.length):
 Wf (AN (ag P (n+3)) (dG r0 d room pat nr now h r9 bE r11 bR bS bK bM bI a6) S) { nx:=λρ' S'=>∃bR bK bM bI a6 cF,ρ'=dG r0 d room pat nr now h r9 bE r11 bR bS bK bM bI a6/\LQ S0 S' d h asks aM cF (B+1) a L/\iJ cF a.ends/\ir cF a.ends asks.length,rt:=λ_ _=>False }:=by
 have hal:=s.al;have zA:=s.kl;unfold AN;apply qG;rfl';refine lz s.gq ?_;refine j5 (Inv:=λi ρ S'=>∃bR bK bM bI a6 cF,ρ=dG r0 d room pat nr now h r9 bE r11 bR bS bK bM bI a6/\LQ S0 S' d h asks aM cF (B+1) a L/\cF.length<=af.length+i/\iJ cF a.ends/\ir cF E0 asks.length/\ir cF a.ends i)
  ⟨bR,bK,bM,bI,a6,af,rfl,s.GB s.hh (s.ho.mono (Nat.le_succ _) (by omega)) (Nat.le_succ _) (Fr.refl _ _) (λp hp=>Or.inl ⟨p,hp,rfl⟩),Nat.le_refl _,λp hp=>?_,hc,λk e hk=>by omega⟩ (λi ρ S' _ ⟨_,_,_,_,_,_,_,s',_⟩=>decide_eq_true (bf s'.gq)) (λi y ρ S1 hi ⟨bR,bK,bM,bI,a6,cF,eρ,s1,hlen,mP,uK,DK⟩=>?_) (λρ S1 ⟨bR,bK,bM,bI,a6,cF,eρ,s1,hlen,mP,uK,DK⟩=>?_)
 .obtain⟨k,e,h1,h2,h3,h4⟩:=h0 p hp;exact⟨k,e,h1,j.old k e h2 h3,h3,h4⟩
 .subst eρ;unfold fk at hi;rw[List.getElem?_mapIdx] at hi;cases hp:asks[i]? with
  | none=>rw[hp] at hi;cases hi
  | some p=>
   rw[hp] at hi;have hy:Fq i p=y:=by simpa using hi
   subst hy;have zx:=(List.getElem?_eq_some_iff.mp hp).1;have hx:=s1.an p (List.mem_of_getElem? hp);obtain⟨e,he⟩:∃e,a.ends[i]?=some e:=⟨_,List.getElem?_eq_getElem (by rw[j.el];exact zx)⟩;obtain⟨f,hf⟩:∃f,E0[i]?=some f:=⟨_,List.getElem?_eq_getElem (by rw[hE];exact zx)⟩;have q0:=s1.hh.o0;have gg:=s1.gg;refine⟨_,rfl,?_⟩;show Wf (ah _ (dG r0 d room pat nr now h r9 bE r11 (some p.1) bS (some (.int i)) (some (.int p.2)) bI a6) S1) _;rfl';refine ak (KR (n:=n) (B:=B) s1.hh he) ?_;show Wf (ah (_::_::[_]) (dG r0 d room pat nr now h r9 bE r11 (some p.1) bS (some (.int i)) (some (.int p.2)) (some e) a6) S1) _;have c3:∀S2 qy a6,LQ S0 S2 d h asks aM qy (B+1) a L->qy.length<=af.length+(i+1)->iJ qy a.ends->ir qy E0 asks.length->ir qy a.ends (i+1)->cf 8 e=true ->
    ∀{K:En},(∀ρ S',(∃bR bK bM bI a6 cF,ρ=dG r0 d room pat nr now h r9 bE r11 bR bS bK bM bI a6/\LQ S0 S' d h asks aM cF (B+1) a L/\cF.length<=af.length+(i+1)/\iJ cF a.ends/\ir cF E0 asks.length/\ir cF a.ends (i+1))->K.nx ρ S')->Wf (ah [FA] (dG r0 d room pat nr now h r9 bE r11 (some p.1) bS (some (.int i)) (some (.int p.2)) (some e) a6) S2) K:=λS2 qy a6 s2 xG h2 h3 h4 h5 K hK=>by
    have fin:=hK (dG r0 d room pat nr now h r9 bE r11 (some p.1) bS (some (.int i)) (some (.int p.2)) (some e) a6) S2 ⟨_,_,_,_,_,qy,rfl,s2,xG,h2,h3,h4⟩;unfold FA;rfl';refine AJ h5 rfl ?_;rfl';refine eJ (λhc=>?_) (λhc=>?_)
    .subst hc;obtain⟨w,w1,w2,w3,w4⟩:=j.fW i p hp he λh=>by cases h
     have:=(j.zs w w1).2;rfl';refine iN (by omega) ?_;rfl';exact fin
    .rfl';exact fin
   have up:∀e',(bB cF (.int i)).isSome=true\/e' = .tup []->a.ends[i]?=some e'->ir cF a.ends (i+1):=λe' hv DD k e2 hk h2 h3=>by
    by_cases hki:k=i
    .subst hki;rw[DD] at h2;cases h2;exact hv.elim id λh=>absurd h h3
    .exact DK k e2 (by omega) h2 h3
   cases hv:bB cF (.int i) with
   | some v=>obtain⟨e',rfl,h1,h2,h3⟩:=IM mP hv;rw[he] at h1;cases h1;have e8:cf 8 e=true:=lY h3 (by decide);unfold ET;rfl';refine xu gg (gI mP i) ?_;rw[hv];apply tb;refine l8 ?_;rfl';refine oG gg (gI mP i) hv ?_;rfl';refine wm e8 e8 ?_;rfl';refine iF rfl ?_;apply bH;show Wf (ah (_::[_]) (dG r0 d room pat nr now h r9 bE r11 (some p.1) bS (some (.int i)) (some (.int p.2)) (some e) a6) S1) _;unfold sP;apply aQ;apply f6;rfl';refine qX gg (gI mP i) ?_;rw[hv];apply tb;refine ji (ji ?_);apply bH;exact c3 S1 cF a6 s1 (by omega) mP uK (up e (Or.inl (by rw[hv];rfl)) he) e8 λ_ _ h=>h
   | none=>
    have mK:f = .tup []:=by
     by_cases mK:f = .tup []
     .exact mK
     .have:=uK i f zx hf mK;rw[hv] at this;cases this
    subst mK;have sh:=j.new i e p he hp hf;have e8:cf 8 e=true:=by rcases sh with rfl|rfl | ⟨v,u,rfl,_⟩<;>rfl
    unfold ET;rfl';refine xu gg (gI mP i) ?_;rw[hv];apply tb;refine ji (ji ?_);apply bH;show Wf (ah (sP::[_]) (dG r0 d room pat nr now h r9 bE r11 (some p.1) bS (some (.int i)) (some (.int p.2)) (some e) a6) S1) _
    by_cases he0:e = .tup []
    .unfold sP;apply aQ;apply f6;rfl';refine qX gg (gI mP i) ?_;rw[hv];apply tb;refine l8 ?_;rfl';refine wm e8 rfl ?_;rfl';refine iF he0 ?_;apply bH;exact c3 S1 cF a6 s1 (by omega) mP uK (up e (Or.inr he0) he) e8 λ_ _ h=>h
    .obtain⟨w,rfl,hw⟩:∃w,e = .tup [w]/\(w = .aj\/∃v u,w = .int v/\(p.1,v,u)∈aM/\now<=u):=by
      rcases sh with h | rfl | ⟨v,u,rfl,h1,h2⟩
      .exact absurd h he0
      .exact⟨_,rfl,Or.inl rfl⟩
      .exact⟨_,rfl,Or.inr ⟨v,u,rfl,h1,h2⟩⟩
     apply aQ;refine Ho s1 hB hx hw hv mP (by omega) λS2 a6 h1 h2 h3 g1 g2 g3=>?_;dsimp only;refine c3 S2 _ a6 ⟨h2,s1.mN,s1.mO,h1,s1.ho,s1.lo,g1,g2,g3,h3,s1.an,s1.al,s1.tn,s1.tl,by rw[List.length_append,List.length_singleton];omega⟩ (by rw[List.length_append,List.length_singleton];omega) (λq hq=>?_) (λk e2 hk q1 q2=>yC (uK k e2 hk q1 q2)) (λk e2 hk q1 q2=>?_) e8 λ_ _ h=>h
     .rcases List.mem_append.mp hq with hq | hq
      .exact mP q hq
      .exact⟨i,_,List.mem_singleton.mp hq,he,he0,by rcases hw with rfl | ⟨v,u,rfl,_⟩<;>rfl⟩
     .by_cases hki:k=i
      .subst hki;exact val_last
      .exact yC (DK k e2 (by omega) q1 q2)
 .subst eρ;have:(fk asks).length=asks.length:=by unfold fk;rw[List.length_mapIdx]
  rw[this] at DK;exact⟨_,_,_,_,_,cF,rfl,s1,mP,DK⟩
end
section
noncomputable def Ap (cl:Calls):CS:=(ah [(a5 4 (bz .Add (aa 4) (cE (.int 1)))),(aU (aF T.aS cl.m (some 34) none (aa 5) [(aa 4)]))])
noncomputable def EA (cl:Calls):CS:=(ah [(a5 12 (ao (cl.f 21) [(aa 1)])),(aU (aF T.aS cl.m (some 4) (some .append) (aa 6) [(ba [(bh (aF T.aS cl.m (some 5) none (aa 5) [(aa 12),(aa 4)]) (cE (.int 0))),(aa 12),(aa 4)])]))])
noncomputable def G7 (cl:Calls):CS:=(bA (eA (aq (aC .NotEq (aa 6) (bT []))) (aq (aC .Eq (ao (cl.f 18) [(aa 1),(cE (.int 2))]) (cE (.int 0))))) (ah [(a5 13 (bz .Add (ba [(bh (aa 13) (cE (.int 0))),(bh (bh (aa 6) (ao (cl.f 18) [(aa 1),(dQ T.aS cl.m (some 1) (aa 6))])) (cE (.int 1)))]) (fN (aa 13) (some (cE (.int 2))) none)))]) (ah []))
noncomputable def zQ (cl:Calls):CS:=(aU (aF T.aS cl.m (some 9) none (aa 5) [(bz .Add (cE (.int 1)) (ao (cl.f 18) [(aa 1),(cE (.int 3))])),(aa 13),(aa 4)]))
noncomputable def A2 (cl:Calls):CS:=(bA (aq (aC .Eq (bh (aa 13) (cE (.int 0))) (cE (.str "thing")))) (ah [(aU (aF T.aS cl.m (some 4) (some .append) (aa 8) [(aa 13)]))]) (ah []))
noncomputable def Ed (cl:Calls):CS:=(ah [(a5 13 (ao (cl.f 23) [(aa 1),(aa 4)])),G7 cl,zQ cl,A2 cl])
noncomputable def AU (cl:Calls):CS:=(ah [(a5 11 (ao (cl.f 18) [(aa 1),(cE (.int 4))])),(bA (aq (aC .Eq (aa 11) (cE (.int 0)))) (Ap cl) (ah [(bA (aq (aC .Eq (aa 11) (cE (.int 1)))) (EA cl) (Ed cl))])),AN cl])
noncomputable def CK (S0:ae)(d B:Nat)(ρ:RF.Env)(S:ae):Prop:=∃r0 room pat nr now h r9 bE r11 bR bS bK bM bI a6 asks aM af E0 a L,ρ=dG r0 d room pat nr now h r9 bE r11 bR bS bK bM bI a6/\0<=now/\1<=pat/\LQ S0 S d h asks aM af B a L/\J asks aM now pat (λi=>i<=now/\now-i<pat) E0 .aj a (L.map (·.1))/\E0.length=asks.length/\iJ af E0/\ir af E0 asks.length
noncomputable def St (S0:ae)(d B:Nat)(ρ:RF.Env)(S:ae):Prop:=∃r0 room pat nr now h r9 bE r11 bR bS bK bM bI a6 asks aM af a L,ρ=dG r0 d room pat nr now h r9 bE r11 bR bS bK bM bI a6/\0<=now/\1<=pat/\LQ S0 S d h asks aM af B a L/\J asks aM now pat (λi=>i<=now/\now-i<pat) a.ends .aj a (L.map (·.1))/\iJ af a.ends/\ir af a.ends asks.length
variable {S0 S:ae}{d h:Nat}{asks:List (D×Int)}{aM:List Row}{af:List (D×D)}{B:Nat}{a:HA}{L:WL}{now pat room:Int}{nr n:Nat}{r0 r9 bE r11 bR bS bK bM bI a6:Option D}
theorem Mg (s:LQ S0 S d h asks aM af B a L)(hB:B<=200)(hn:0<=now)(hp:1<=pat)(j:J asks aM now pat (λi=>i<=now/\now-i<pat) a.ends .aj a (L.map (·.1)))(h0:iJ af a.ends)(hc:ir af a.ends asks.length):
 Wf (Ap (ag P (n+8)) (dG r0 d room pat nr now h r9 bE r11 bR bS bK bM bI a6) S) { nx:=CK S0 d (B+2),rt:=λ_ _=>False }:=by
 have q0:=s.hh.o0;unfold Ap;rfl';refine wp_mono (Ik (n:=n+3) (J:=λa' zB=>J asks aM (now+1) pat (λi=>i<=now+1) a.ends .aj a' zB) s.hh s.ho (by omega) (by omega) (λk hk=>(j.turn λi hi=>by omega).Gg λr hr=>hk.subset hr) (λa' ws w ho' j' hw=>j'.tell ho'.wn hw (ho'.wk w hw).aJ (λ_=>Iff.rfl) (Or.inl rfl))) λv S' ⟨a',L',zC,ho',j',hs,de,hf⟩=>?_;rfl';refine⟨r0,room,pat,nr,now+1,h,r9,bE,r11,bR,bS,bK,bM,bI,a6,asks,aM,af,a.ends,a',L',rfl,by omega,hp,s.GB zC (ho'.mono (by omega) (by omega)) (by omega) hf λp hp=>Or.inl ⟨p,hs.subset hp,rfl⟩,j'.z λw hw hi=>⟨hi,?_⟩,j.el,h0,hc⟩;obtain⟨p,hp,rfl⟩:=List.mem_map.mp hw;have:=de p hp;rw[j.pt] at this;exact this
theorem Nw (s:LQ S0 S d h asks aM af B a L)(hB:B<=190)(hn:0<=now)(hp:1<=pat)(j:J asks aM now pat (λi=>i<=now/\now-i<pat) a.ends .aj a (L.map (·.1)))(h0:iJ af a.ends)(hc:ir af a.ends asks.length):
 Wf (EA (ag P (n+8)) (dG r0 d room pat nr now h r9 bE r11 bR bS bK bM bI a6) S) { nx:=CK S0 d (B+2),rt:=λ_ _=>False }:=by
 unfold EA;rfl';refine wp_mono (pw (n+4) d S s.di) λx S1 ⟨hx,fI,ff⟩=>?_;have s:=s.lU fI ff;have q0:=s.hh.o0;have gq:=s.gq;have hA:∀p∈L,p.1.asked≠[]:=λp hp=>j.ask p.1 (List.mem_map.mpr ⟨p,hp,rfl⟩);rfl';refine wp_mono (Mz (n:=n) s.hh s.ho (by omega) hA hx hn) λv S2 ⟨L',u,ev,e,r,_,_,_,h1,h2,h3,_⟩=>?_;subst ev;have s2:=s.GB h1 (by rw[e];exact Jg s.ho (by omega) hx) (by omega) h2 h3;rfl';have hal:=s.al;refine⟨_,s2.gq,by unfold fk;rw[List.length_mapIdx];unfold sizeLine;omega,?_⟩;rfl';obtain⟨g1,g2,g3⟩:=s2.ic (n:=h+10) (o:=.lst (fk asks++[.tup [.int a.ends.length,x,.int now]])) (by omega);have xO:=j.el;have hap:fk (asks++[(x,now)])=fk asks++[.tup [.int a.ends.length,x,.int now]]:=by unfold fk;rw[List.mapIdx_concat,xO];rfl
 have j1:J (asks++[(x,now)]) aM now pat (λi=>i<=now/\now-i<pat) (a.ends++[.tup []]) .aj (su a (L.map (·.1)) x now).1 (L'.map (·.1)):=by
  rw[e];refine(j.asked (x:=x)).Oz s.ho.wn (Or.inr ⟨a.ends.length,(x,now),rfl,?_,rfl,?_,Int.le_refl _⟩) (by omega) λi hi=>hi.1
  .rw[xO];simp
  .simp
 refine⟨r0,room,pat,nr,now,h,r9,bE,r11,some x,bS,bK,bM,bI,a6,asks++[(x,now)],aM,af,a.ends++[.tup []],_,L',rfl,hn,hp,⟨g2,s2.mN,s2.mO,g1,s2.ho,s2.lo,by rw[hap];exact dk s2.gq,gH s2.gg (by omega),gH s2.gt (by omega),g3,λp hp=>?_,by rw[List.length_append,List.length_singleton];omega,s2.tn,s2.tl,s2.kl⟩,j1,by simp[xO],λp hp=>?_,λk f hk q1 q2=>?_⟩
 .rcases List.mem_append.mp hp with hp | hp
  .exact s.an p hp
  .rw[List.mem_singleton.mp hp];exact hx
 .obtain⟨k,f,e1,e2,e3⟩:=h0 p hp;exact⟨k,f,e1,by rw[List.getElem?_append_left (List.getElem?_eq_some_iff.mp e2).1];exact e2,e3⟩
 .rw[List.length_append,List.length_singleton] at hk
  by_cases hkm:k<a.ends.length
  .rw[List.getElem?_append_left hkm] at q1;exact hc k f (by omega) q1 q2
  .have:k=a.ends.length:=by omega
   subst this;rw[List.getElem?_append_right (Nat.le_refl _)] at q1;simp at q1;exact absurd q1.symm q2
theorem B5 {a:D}{l:List D}:jk (a::l) 0=some a:=by unfold jk qP;rw[if_pos (by omega),if_pos (by simp)];rfl
theorem MJ {a b:D}{tl:List D}:cutD (a::b::tl) (some 2) none=tl:=by unfold cutD aX;simp
theorem Hk {kd:Str}{tl:List D}(h:z7 kd tl):tl.length<=2:=by rcases h with⟨_,rfl⟩|⟨_,rfl⟩|⟨_,w,u,rfl,_⟩<;>simp
theorem NM (s:LQ S0 S d h asks aM af B a L)(hB:B<=190)(hn:0<=now)(hp:1<=pat)(j:J asks aM now pat (λi=>i<=now/\now-i<pat) a.ends .aj a (L.map (·.1)))(h0:iJ af a.ends)(hc:ir af a.ends asks.length):
 Wf (Ed (ag P (n+8)) (dG r0 d room pat nr now h r9 bE r11 bR bS bK bM bI a6) S) { nx:=CK S0 d (B+2),rt:=λ_ _=>False }:=by
 have rest:∀kd x tl S2,aN x->z7 kd tl->LQ S0 S2 d h asks aM af B a L->Wf (ah [zQ (ag P (n+8)),A2 (ag P (n+8))] (dG r0 d room pat nr now h r9 bE r11 bR (some (.tup (.str kd::x::tl))) bK bM bI a6) S2) { nx:=CK S0 d (B+2),rt:=λ_ _=>False }:=λkd x tl S2 hx hk s2=>by
  have q0:=s2.hh.o0;unfold zQ;rfl';refine wp_mono (cC (n+6) d 3 _ s2.di (by decide) (by decide)) λv S3 ⟨⟨z,ez,z1,z2⟩,gT,gE⟩=>?_;subst ez;have s3:=s2.lU gT gE;rfl';have hz3:1+z∈eG:=by
   have:z=0\/z=1\/z=2:=by omega
   rcases this with rfl|rfl|rfl<;>decide
  refine wp_mono (Fs (n:=n) s3.hh s3.ho (by omega) j hx hk hn hz3 (by omega) λi hi=>hi.1) λv S4 ⟨a',L',h1,h2,j',h3,h4⟩=>?_;have s4:=s3.GB h1 (h2.mono (B':=B+2) (by omega) (by omega)) (by omega) h3 h4;have htl:=s2.tl;have gt:=s4.gt;have xO:a.ends.length=asks.length:=j.el;unfold A2;rfl';refine uZ B5 ?_;rfl';refine p7 ?_;apply tb;rcases hk with⟨rfl,rfl⟩|⟨rfl,rfl⟩|⟨rfl,w,u,rfl,w1,w2,u1⟩
  .refine iN (by decide +kernel) ?_;rfl';simp only[rW,List.append_nil] at j';exact⟨r0,room,pat,nr,now,h,r9,bE,r11,bR,_,bK,bM,bI,a6,asks,aM,af,a.ends,a',L',rfl,hn,hp,s4,j',xO,h0,hc⟩
  .refine iN (by decide +kernel) ?_;rfl';simp only[rW,List.append_nil] at j';exact⟨r0,room,pat,nr,now,h,r9,bE,r11,bR,_,bK,bM,bI,a6,asks,aM,af,a.ends,a',L',rfl,hn,hp,s4,j',xO,h0,hc⟩
  .refine iF rfl ?_;rfl';refine⟨_,gt,by rw[List.length_map];unfold sizeLine;omega,?_⟩;rfl';obtain⟨g1,g2,g3⟩:=s4.ic (n:=h+12) (o:=.lst (aM.map BF++[i8 x w u])) (by omega);refine⟨r0,room,pat,nr,now,h,r9,bE,r11,bR,_,bK,bM,bI,a6,asks,aM++[(x,w,u)],af,a.ends,a',L',rfl,hn,hp,⟨g2,s4.mN,s4.mO,g1,s4.ho,s4.lo,gH s4.gq (by omega),gH s4.gg (by omega),by rw[dk gt,List.map_append];rfl,g3,s4.an,s4.al,λr hr=>?_,by rw[List.length_append,List.length_singleton];omega,s4.kl⟩,j',xO,h0,hc⟩;rcases List.mem_append.mp hr with hr | hr
   .exact s4.tn r hr
   .rw[List.mem_singleton.mp hr];exact hx
 unfold Ed;rfl';refine wp_mono (sy (n+3) d now S s.di) λv S1 ⟨⟨kd,x,tl,ev,hx,hk⟩,fI,ff⟩=>?_;subst ev;have s1:=s.lU fI ff;show Wf (ah (_::[_,_]) (dG r0 d room pat nr now h r9 bE r11 bR (some (.tup (.str kd::x::tl))) bK bM bI a6) S1) _;apply aQ;unfold G7;apply f6;rfl';refine ne_0 (cG s1.gq) (bt _ _) ?_;have s2:=s1.app (T:=[.lst []]);apply tb;refine FF (eJ (λha=>?_) (λha=>?_))
 .refine ji ?_;apply bH;exact rest kd x tl _ hx hk s2
 generalize S1++[O.lst []]=S2 at s2;rfl';refine wp_mono (cC (n+6) d 2 _ s2.di (by decide) (by decide)) λv S3 ⟨⟨z,ez,z1,z2⟩,gT,gE⟩=>?_;subst ez;have s3:=s2.lU gT gE;rfl';refine eJ (λ_=>?_) (λ_=>?_)
 .have gq:=s3.gq;have hal:=s3.al;have hpos:0<(fk asks).length:=List.length_pos_iff.mpr ha;have hlen:(fk asks).length<=200:=by unfold fk;rw[List.length_mapIdx];omega
  rfl';refine uZ B5 ?_;rfl';refine wp_mono (cC (n+6) d ((fk asks).length:Int) _ s3.di (by omega) (by omega)) λv S4 ⟨⟨y,ey,y1,y2⟩,sr,pQ⟩=>?_;subst ey;have s4:=s3.lU sr pQ;obtain⟨t,et,hm⟩:=kS (xs:=fk asks) y1 y2;obtain⟨k,zA,rfl⟩:=List.mem_mapIdx.mp hm;refine vb s4.gq et ?_;unfold Fq;rfl';refine⟨2,rfl,?_⟩;refine ak (a:=.tup tl) (S:=S4) ?_ ?_
  .show R.ok (D.tup (cutD _ (some 2) none)) S4=_;rw[MJ]
  refine ak (a:=.tup (.str kd::asks[k].1::tl)) (S:=S4) ?_ ?_
  .show aB (big (2+tl.length)) _=_;have:big (2+tl.length)=true:=decide_eq_true (by have:=Hk hk;unfold sizeLine;omega);rw[this];rfl
  apply bH;exact rest kd _ tl S4 (s4.an _ (List.getElem_mem zA)) hk s4
 .apply bH;exact rest kd x tl S3 hx hk s3
theorem Im {ρ:RF.Env}(hB:B<=190)(hs:St S0 d B ρ S):Wf (AU (ag P (n+8)) ρ S) { nx:=St S0 d (B+3),rt:=λ_ _=>False }:=by
 obtain⟨r0,room,pat,nr,now,h,r9,bE,r11,bR,bS,bK,bM,bI,a6,asks,aM,af,a,L,rfl,hn,hp,s,j,h0,hc⟩:=hs;have rest:∀ρ S,CK S0 d (B+2) ρ S->Wf (ah [AN (ag P (n+8))] ρ S) { nx:=St S0 d (B+3),rt:=λ_ _=>False }:=λρ S hs=>by obtain⟨r0,room,pat,nr,now,h,r9,bE,r11,bR,bS,bK,bM,bI,a6,asks,aM,af,E0,a,L,rfl,hn,hp,s,j,hE,h0,hc⟩:=hs;apply aQ;refine gk (K0 (n:=n+5) s (by omega) j hE h0 hc) (λρ' S' ⟨bR,bK,bM,bI,a6,cF,e,s',h0',mG⟩=>?_) (λ_ _ h=>h) (λ_ _ h=>h) (λ_ _ h=>h);apply bH;exact⟨r0,room,pat,nr,now,h,r9,bE,r11,bR,bS,bK,bM,bI,a6,asks,aM,cF,a,L,e,hn,hp,s',j.turn λ_ h=>h,h0',mG⟩
 unfold AU;rfl';refine wp_mono (cC (n+6) d 4 _ s.di (by decide) (by decide)) λv S1 ⟨⟨z,ez,z1,z2⟩,fI,ff⟩=>?_;subst ez;have s:=s.lU fI ff;rfl';refine eJ (λ_=>?_) (λ_=>?_)
 .exact gk (Mg (n:=n) (r11:=some (.int z)) s (by omega) hn hp j h0 hc) rest (λ_ _ h=>h) (λ_ _ h=>h.elim) (λ_ _ h=>h.elim)
 rfl';refine eJ (λ_=>?_) (λ_=>?_)
 .exact gk (Nw (n:=n) (r11:=some (.int z)) s hB hn hp j h0 hc) (λρ S h=>bH (rest ρ S h)) (λ_ _ h=>h) (λ_ _ h=>h.elim) (λ_ _ h=>h.elim)
 .exact gk (NM (n:=n) (r11:=some (.int z)) s hB hn hp j h0 hc) (λρ S h=>bH (rest ρ S h)) (λ_ _ h=>h) (λ_ _ h=>h.elim) (λ_ _ h=>h.elim)
end
noncomputable def Ao (cl:Calls):List CS:=[(kF [2,3,4] [(ao (cl.f 24) [(aa 1)]),(bT [(cE (.int 1)),(cE (.int 2)),(cE (.int 3))]),(cE (.int 0))]),(kF [5,6,7] [(ie (cl.m 3 0) 3 [(cE (.int 0)),(aa 3)] (T.dt 3) ["room","wait"] [(bh (aa 2) (cE (.int 0))),(bh (aa 2) (cE (.int 1)))]),(bT []),g8]),(a5 8 (bT []))]
noncomputable def AO (cl:Calls):List CS:=[(fh (.dyn (bT [(ba []),(ba [(cE (.str "a"))])])) [9] true (ah [(aU (aF T.aS cl.m (some 32) none (aa 5) [(aa 9),(ao (cl.f 22) [(aa 1),(aa 3)])]))])),(fh (.range (ao (cl.f 18) [(aa 1),(cE (.int 41))])) [10] true (AU cl))]
theorem FK (cl:Calls):zU cl=ah [jB je (ao (cl.f 19) [(aa 0),(cE (.int 3))]) 1 (ah (Ao cl++AO cl)),(retS (cE (.bl true)))]:=rfl
theorem J6 {a b:List CS}{ρ:RF.Env}{S:ae}{K:En}(h:Wf (ah a ρ S) { K with nx:=λρ S=>Wf (ah b ρ S) K }):Wf (ah (a++b) ρ S) K:=by
 induction a generalizing ρ S with
 | nil=>exact h
 | cons c a ih=>
  show Wf ((c ρ S).then (ah (a++b))) K;have h:Wf ((c ρ S).then (ah a)) { K with nx:=λρ S=>Wf (ah b ρ S) K }:=h;cases e:c ρ S with
  | nx ρ1 S1=>rw[e] at h;exact ih h
  | rt d S1=>rw[e] at h;exact h
  | bk ρ1 S1=>rw[e] at h;exact h
  | ct ρ1 S1=>rw[e] at h;exact h
  | bad=>rw[e] at h;exact h
noncomputable def Lo (ρ:RF.Env)(d:Nat)(room pat:Int)(nr h:Nat):Prop:=∃r0 r9 bE r11 bR bS bK bM bI a6,ρ=dG r0 d room pat nr 0 h r9 bE r11 bR bS bK bM bI a6
structure C7 (S0 S:ae)(d nr h:Nat)(room pat:Int)(held:List (D×List Int)):Prop where
 s:LQ S0 S d h [] [] [] 10 { qz 0 eG room pat with held:=held } []
 gn:S[nr]?=some (.lst (eG.map .int))
 nr:10<=nr/\nr<h
 hp:1<=pat
theorem Iu {n d:Nat}{S0:ae}{ρ:RF.Env}(h0:S0.length=10)(hd:cY d S0)(hρ:∃r0 r2 r3 r4 r5 r6 r7 r8 r9 bE r11 bR bS bK bM bI a6,ρ=[r0,some (.ref d),r2,r3,r4,r5,r6,r7,r8,r9,bE,r11,bR,bS,bK,bM,bI,a6]):
 Wf (ah (Ao (ag P (n+8))) ρ S0) { nx:=λρ' S'=>∃room pat nr h,Lo ρ' d room pat nr h/\C7 S0 S' d nr h room pat [],rt:=λ_ _=>False }:=by
 obtain⟨r0,r2,r3,r4,r5,r6,r7,r8,r9,bE,r11,bR,bS,bK,bM,bI,a6,rfl⟩:=hρ;have M6:d<10:=by have:=hd.lt;omega
 unfold Ao;rfl';refine wp_mono (Ia (n+5) d S0 hd) λv S1 ⟨room,pat,ev,m1,m2,m3,m4,fI,ff⟩=>?_;subst ev;have l1:10<=S1.length:=by have:=ff.1;omega
 rfl';refine⟨_,rfl,?_⟩;have gn:=bt S1 (.lst (eG.map .int));have hd2:=fI.fr (Fr.app no S1 [.lst (eG.map .int)]) λh=>h;have f2:Fr (· = d) S0 (S1++[.lst (eG.map .int)]):=dm ff;have e2:(S1++[O.lst (eG.map .int)]).length=S1.length+1:=by simp
 show Wf (ah (_::[_]) [r0,some (.ref d),some (.tup [.int room,.int pat]),some (.ref S1.length),some (.int 0),r5,r6,r7,r8,r9,bE,r11,bR,bS,bK,bM,bI,a6] (S1++[.lst (eG.map .int)])) _;generalize S1++[O.lst (eG.map .int)]=S2 at gn hd2 f2 e2;generalize S1.length=nr at gn e2 l1;apply aQ;apply rF;apply eC;apply oE;rfl';have Og:n8 (T.dt 3) ["room","wait"] [D.int room,.int pat]=[.int room,.int pat]:=by kernel_rfl
 rw[Og];refine wp_mono (Ab (n+2) S2.length nr 0 room pat eG S2 rfl gn (by refine⟨by decide,by decide,by decide⟩) (by decide) (by decide) (by decide) m1 (by omega) m3 m4) λv S3 ⟨ev,hh3,gE,l3⟩=>?_;subst ev;refine⟨rfl,?_⟩;have gn3:=gE.at gn λh=>h;have gT:=hd2.fr gE λh=>h;have f3:=f2.trans gE λ_ _ h=>h.elim;generalize hh:S2.length=h at hh3 l3 e2;rfl';have e4:(S3++[O.lst []]).length=h+11:=by simp[l3]
 rw[l3,e4];refine⟨_,rfl,?_⟩;rfl';have e5:(S3++[O.lst []]++[O.aG []]).length=h+12:=by simp[l3]
 rw[e5];have fT:Fr no S3 (S3++[O.lst []]++[O.aG []]++[O.lst []]):=dm (dm (dm (Fr.refl _ _)));have g0:(S3++[O.lst []]++[O.aG []]++[O.lst []])[h+10]?=some (.lst []):=by rw[<-l3];ac_rfl
 have g1:(S3++[O.lst []]++[O.aG []]++[O.lst []])[h+11]?=some (.aG []):=by rw[<-e4];ac_rfl
 have g2:(S3++[O.lst []]++[O.aG []]++[O.lst []])[h+12]?=some (.lst []):=by rw[<-e5];ac_rfl
 have aw:aL (qz 0 eG room pat) [] 10:=⟨(⟨by decide,by decide,by decide⟩:gb eG),m1,by show room<=9;omega,⟨by simp,by simp⟩,m1,by intro p hp;simp at hp,by simp,⟨by simp,by simp⟩,by simp,by simp,by simp,by simp,by simp,by simp,by simp,by decide⟩;refine⟨room,pat,nr,h,⟨r0,r9,bE,r11,bR,bS,bK,bM,bI,a6,rfl⟩,⟨gT.fr fT λh=>h,M6,by omega,hh3.fr fT λ_ _ h=>h,aw,by simp,g0,g1,g2,((f3.mono λi _ h=>Or.inl h:Fr (λi=>i=d\/10<=i) S0 S3)).trans fT λ_ _ h=>h.elim,by simp,by simp,by simp,by simp,by simp⟩,fT.at gn3 λh=>h,⟨l1,by omega⟩,m3⟩
theorem Bv {n d nr h:Nat}{S0 S:ae}{room pat:Int}{held:List (D×List Int)}{b:D}{r0 bE r11 bR bS bK bM bI a6:Option D}(t:C7 S0 S d nr h room pat held)(hb:ju b)(hl:held.length<=10):
 Wp (aF T.aS (ag P (n+8)).m (some 32) none (aa 5) [(aa 9),(ao ((ag P (n+8)).f 22) [(aa 1),(aa 3)])] (dG r0 d room pat nr 0 h (some b) bE r11 bR bS bK bM bI a6) S) λ_ S'=>(∃vm,vm.length<=held.length+1/\C7 S0 S' d nr h room pat vm)/\Fr (λi=>i<h+10) S S':=by
 obtain⟨s,gn,⟨n1,n2⟩,hp⟩:=t;have M6:=s.mN;have q0:=s.hh.o0;rfl';refine wp_mono (yd (n+5) d nr eG S s.di gn (by decide) (by decide) (by omega)) λv S1 ⟨l,ev,gl,ln,lm,ll,fI,ff⟩=>?_;subst ev;have s1:=s.lU fI ff;have gn1:=ff.at gn (by omega);have hso:gb l:=⟨ln,Nat.le_trans ll (by decide),λi hi=>by
  have:=lm i hi;have:i=1\/i=2\/i=3:=by simpa using this
  omega⟩
 rfl';refine ak (DN (n:=n+1) (B:=10) s1.hh s1.ho hb gl hso) ?_;have hf:Fr (· = h+4+1) S1 (S1.set (h+4+1) (.aG ((jj held b l).map k7))):=Fr.set _ _ _ _ rfl;have mO:=s1.mO;have iz:(jj held b l).length<=held.length+1:=by unfold jj;split<;>simp
 refine⟨⟨jj held b l,iz,⟨s1.di.fr hf (by omega),s1.mN,mO,s1.hh.held (jj held b l),?_,by simp,hf.at s1.gq (by omega),hf.at s1.gg (by omega),hf.at s1.gt (by omega),s1.fr.trans hf λi _ hi=>Or.inr (by omega),by simp,by simp,by simp,by simp,by simp⟩,hf.at gn1 (by omega),⟨n1,n2⟩,hp⟩,(ff.mono λi _ hi=>by omega:Fr (λi=>i<h+10) S S1).trans hf λi _ hi=>by omega⟩;obtain⟨h1,h2,h3,h4,h5,h6,h7,h8,h9,wn,wk,el,pn,pl,ll,bl⟩:=s1.ho;exact⟨h1,h2,h3,h4,h5,Hn h6 hb hso,by show (jj held b l).length<1000;omega,h8,h9,wn,wk,el,pn,pl,ll,bl⟩
theorem Iy {n d nr h:Nat}{S0 S:ae}{room pat:Int}{ρ:RF.Env}(hρ:Lo ρ d room pat nr h)(t:C7 S0 S d nr h room pat []):
 Wf (ah (AO (ag P (n+8))) ρ S) { nx:=λρ' S'=>∃B,St S0 d B ρ' S',rt:=λ_ _=>False }:=by
 obtain⟨r0,r9,bE,r11,bR,bS,bK,bM,bI,a6,rfl⟩:=hρ;unfold AO;apply aQ;rfl';refine lz (bt _ _) ?_;have de:h+10<=S.length:=t.s.hh.lt;refine j5 (Inv:=λi ρ S'=>∃r9,ρ=dG r0 d room pat nr 0 h r9 bE r11 bR bS bK bM bI a6/\S'[S.length]?=some (.lst [.tup [],.tup [.str "a"]])/\∃held,held.length<=i/\C7 S0 S' d nr h room pat held) ⟨r9,rfl,bt _ _,[],Nat.le_refl _,t.s.app,cG t.gn,t.nr,t.hp⟩ (λi ρ S' _ ⟨_,_,g,_⟩=>decide_eq_true (bf g)) (λi y ρ S1 hi ⟨r9,eρ,g,held,hl,t1⟩=>?_) (λρ S1 ⟨r9,eρ,g,held,hl,t1⟩=>?_)
 .subst eρ;have hi2:i<2:=(List.getElem?_eq_some_iff.mp hi).1;have hb:ju y:=by
   have:y = .tup []\/y = .tup [.str "a"]:=by simpa using List.mem_of_getElem? hi
   rcases this with rfl|rfl
   .exact Or.inr rfl
   .exact Or.inl ⟨_,rfl,by decide,by decide,by decide +kernel⟩
  refine⟨_,rfl,?_⟩;show Wf (ah [_] (dG r0 d room pat nr 0 h (some y) bE r11 bR bS bK bM bI a6) S1) _;apply aQ;apply jC;refine wp_mono (Bv t1 hb (by omega)) λ_ S2 ⟨⟨vm,pP,t2⟩,f2⟩=>?_;apply bH;exact⟨_,rfl,f2.at g (by omega),vm,by omega,t2⟩
 .subst eρ;obtain⟨s,gn,hnr,hp⟩:=t1;apply aQ;apply l5;rfl';refine wp_mono (cC (n+6) d 41 _ s.di (by decide) (by decide)) λv S2 ⟨⟨z,ev,z1,z2⟩,hd2,lH⟩=>?_;subst ev;have s2:=s.lU hd2 lH;refine⟨z,rfl,?_,?_⟩
  .have p:(2:Int) ^ 62=4611686018427387904:=by decide
   unfold e7;rw[p,decide_eq_true (by omega:-4611686018427387904<=z),decide_eq_true (by omega:z<4611686018427387904)];rfl
  have j:J [] [] 0 pat (λi=>i<=0/\0-i<pat) ({ qz 0 eG room pat with held:=held }:HA).ends .aj { qz 0 eG room pat with held:=held } (([]:WL).map (·.1)):=⟨rfl,by simp,by simp,by simp,by simp,by simp,by simp,rfl,by simp,rfl,rfl,by simp⟩;refine j5 (Inv:=λi ρ S=>i<=40->St S0 d (10+3*i) ρ S) (λ_=>⟨r0,room,pat,nr,0,h,r9,bE,r11,bR,bS,bK,bM,bI,a6,[],[],[],_,[],rfl,by decide,hp,s2,j,by intro p hp;simp at hp,by intro k e hk;simp at hk⟩) (λ_ _ _ _ _=>rfl) (λi y ρ S2 hi hI=>?_) (λρ S2 hI=>?_)
  .have hi6:i<40:=by have:=(List.getElem?_eq_some_iff.mp hi).1;rw[gP] at this;omega
   obtain⟨r0,room,pat,nr,now,h,r9,bE,r11,bR,bS,bK,bM,bI,a6,asks,aM,af,a,L,rfl,q⟩:=hI (by omega);refine⟨_,rfl,?_⟩;refine gk (Im (n:=n) (B:=10+3*i) (by omega) ⟨r0,room,pat,nr,now,h,r9,some y,r11,bR,bS,bK,bM,bI,a6,asks,aM,af,a,L,rfl,q⟩) (λρ S hs _=>by rw[show 10+3*(i+1)=10+3*i+3 by omega];exact hs) (λ_ _ h=>h.elim) (λ_ _ h=>h.elim) (λ_ _ h=>h.elim)
  .rw[gP] at hI;apply bH;exact⟨_,hI (by omega)⟩
theorem FO {ρ:RF.Env}(h:ρ.length=18):∃r0 r1 r2 r3 r4 r5 r6 r7 r8 r9 bE r11 bR bS bK bM bI a6,ρ=[r0,r1,r2,r3,r4,r5,r6,r7,r8,r9,bE,r11,bR,bS,bK,bM,bI,a6]:=by
 match ρ,h with
 | [r0,r1,r2,r3,r4,r5,r6,r7,r8,r9,bE,r11,bR,bS,bK,bM,bI,a6],_=>exact⟨r0,r1,r2,r3,r4,r5,r6,r7,r8,r9,bE,r11,bR,bS,bK,bM,bI,a6,rfl⟩
noncomputable abbrev lZ (cl:Calls):CS:=ah (Ao cl++AO cl)
theorem FL {S:ae}(hS:S.length=10){d:Nat}(hd:cY d S){ρ:RF.Env}(hρ:ρ.length=18)(h1:ρ[1]?=some (some (.ref d))):∃ρ' S' a b,lZ (ag P 12) ρ S = .nx ρ' S'/\ρ'.length=18/\10<=S'.length/\S'.take 10=S.set d (.lst [.int a,.int b]):=by
 have w:Wf (lZ (ag P 12) ρ S) { nx:=λρ' S'=>ρ'.length=18/\cY d S'/\Fr (λi=>i=d\/10<=i) S S',rt:=λ_ _=>False }:=by
  obtain⟨r0,r1,r2,r3,r4,r5,r6,r7,r8,r9,bE,r11,bR,bS,bK,bM,bI,a6,rfl⟩:=FO hρ;have h1:r1=some (.ref d):=by simpa using h1
  subst h1;refine J6 ?_;refine gk (Iu (n:=4) hS hd ⟨r0,r2,r3,r4,r5,r6,r7,r8,r9,bE,r11,bR,bS,bK,bM,bI,a6,rfl⟩) (λρ1 S1 ⟨room,pat,nr,h,h1,h2⟩=>?_) (λ_ _ h=>h.elim) (λ_ _ h=>h.elim) (λ_ _ h=>h.elim);refine gk (Iy (n:=4) h1 h2) (λρ2 S2 ⟨B,r0,room,pat,nr,now,h,r9,bE,r11,bR,bS,bK,bM,bI,a6,asks,aM,af,a,L,e,_,_,s,_⟩=>?_) (λ_ _ h=>h.elim) (λ_ _ h=>h.elim) (λ_ _ h=>h.elim);subst e;exact⟨rfl,s.di,s.fr⟩
 cases e:lZ (ag P 12) ρ S with
 | nx ρ' S'=>
  rw[e] at w;obtain⟨w1,⟨a,b,w2⟩,w3⟩:=w;have hl:10<=S'.length:=by have:=w3.1;omega
  have hdl:=hd.lt;refine⟨ρ',S',a,b,rfl,w1,hl,?_⟩;apply List.ext_getElem?;intro i
  by_cases hi:i<10
  .rw[List.getElem?_take,if_pos hi]
   by_cases hid:i=d
   .subst hid;rw[w2,List.getElem?_set_self hdl]
   .rw[List.getElem?_set_ne (Ne.symm hid)];exact w3.2 i (by omega) (by omega)
  .rw[List.getElem?_eq_none (by simp;omega),List.getElem?_eq_none (by simp;omega)]
 | rt _ _=>rw[e] at w;exact w.elim
 | bk _ _=>rw[e] at w;exact w.elim
 | ct _ _=>rw[e] at w;exact w.elim
 | bad=>rw[e] at w;exact w.elim
theorem yj (g:Nat)(ds:List D):∀(l:List D) (ρ:RF.Env) (S:ae),(∀x∈l,x∈ds)->ρ.length=18->S.length=10->S.all (i4 10)=true->S[g]?=some (.lst ds)->(∀x∈ds,∃d,x = .ref d/\d≠g/\cY d S)->∃ρ' S',iH 10 (.ref g) ds 1 (lZ (ag P 12)) l ρ S = .nx ρ' S'
 | [],ρ,S,_,_,_,_,hg,_=>by refine⟨ρ,S,?_⟩;unfold iH;rw[if_pos (show e9 (.ref g) ds S=true from decide_eq_true (bf hg))]
 | x::l,ρ,S,hl,hρ,hS,ho,hg,hD=>by
  obtain⟨d,rfl,hdg,hd⟩:=hD x (hl x List.mem_cons_self);obtain⟨ρ',S',a,b,e,e1,e2,e3⟩:=FL hS hd (ρ:=ρ.set 1 (some (.ref d))) (by rw[List.length_set];exact hρ) (by rw[List.getElem?_set_self (by omega)]);have de:=hd.lt;have ho':(S.set d (.lst [.int a,.int b])).all (i4 10)=true:=by
   rw[List.all_eq_true] at ho ⊢;intro o hm;rcases List.mem_or_eq_of_mem_set hm with z | z
   .exact ho o z
   .rw[z];rfl
  unfold iH;rw[if_pos (show e9 (.ref g) ds S=true from decide_eq_true (bf hg)),e];dsimp only;rw[e3,if_pos ⟨ho',e2⟩];refine yj g ds l (gj 10 ρ') _ (λy hy=>hl y (List.mem_cons_of_mem _ hy)) (by unfold gj;rw[List.length_map];exact e1) (by rw[List.length_set];exact hS) ho' (by rw[List.getElem?_set_ne hdg];exact hg) λy hy=>?_;obtain⟨d2,rfl,h2,x2,y2,h3⟩:=hD y hy
  by_cases z:d2=d
  .subst z;exact⟨d2,rfl,h2,a,b,dk h3⟩
  .exact⟨d2,rfl,h2,x2,y2,by rw[List.getElem?_set_ne (Ne.symm z)];exact h3⟩
noncomputable abbrev j7:RF.Env:=[some (.ref 0),none,none,none,none,none,none,none,none,none,none,none,none,none,none,none,none,none]
theorem DS (ns:List Int)(hn:ns.length<=63):∃S',(calls P 13).f 25 [.ref 0] [.cw (ns.map D.int)] = .ok (.bl true) S':=by
 have aw:([.cw (ns.map D.int)]:ae).all (i4 10)=true:=by simp only[List.all_cons,List.all_nil,Bool.and_true];show (ns.map D.int).all (kg 10)=true;rw[List.all_eq_true];intro x hx;obtain⟨i,_,rfl⟩:=List.mem_map.mp hx;rfl
 obtain⟨v,S1,e,g,ds,rfl,hg,h0,hl,ho,hD⟩:=vg (CZ 10 ns hn [.cw (ns.map D.int)] rfl rfl aw);have e2:(ag P 13).f 25 [.ref 0] [.cw (ns.map D.int)]=a9 (zU (ag P 12) j7 [.cw (ns.map D.int)]):=Nc 12 _ _;rw[ar] at e2;rw[e2];have hp:vX 10 S1=some (S1++List.replicate (10-S1.length) (.cw (ns.map D.int))):=by unfold vX;rw[h0];exact if_pos hl
 have hrol:i4 10 (.cw (ns.map D.int))=true:=by simpa using aw
 have pK:(S1++List.replicate (10-S1.length) (O.cw (ns.map D.int))).all (i4 10)=true:=oq ho (by rw[List.all_eq_true];intro o hm;rw[(List.mem_replicate.mp hm).2];exact hrol);have up:∀{i o},S1[i]?=some o->(S1++List.replicate (10-S1.length) (O.cw (ns.map D.int)))[i]?=some o:=λ{i o} h=>by rw[List.getElem?_append_left (fi h)];exact h
 obtain⟨ρ',S',lp⟩:=yj g ds ds (gj 10 j7) (S1++List.replicate (10-S1.length) (O.cw (ns.map D.int))) (λ_ h=>h) rfl (by simp;omega) pK (up hg) λx hx=>by obtain⟨d,e,h,a,b,q⟩:=hD x hx;exact⟨d,e,h,a,b,up q⟩
 have sq:b8 [aa 0,cE (.int 3)] j7 [.cw (ns.map D.int)] = .ok [.ref 0,.int 3] [.cw (ns.map D.int)]:=rfl;have er:ao ((ag P 12).f 19) [aa 0,cE (.int 3)] j7 [.cw (ns.map D.int)] = .ok (.ref g) S1:=by unfold ao;rw[sq,R.bY];exact e
 have ef:jB 10 (ao ((ag P 12).f 19) [aa 0,cE (.int 3)]) 1 (lZ (ag P 12)) j7 [.cw (ns.map D.int)] = .nx ρ' S':=by unfold jB;rw[er];dsimp only[dI];rw[hg,hp];dsimp only;rw[if_pos pK,lp]
 refine⟨S',?_⟩;rw[FK];have:ah [jB je (ao ((ag P 12).f 19) [(aa 0),(cE (.int 3))]) 1 (lZ (ag P 12)),(retS (cE (.bl true)))] j7 [.cw (ns.map D.int)] = .rt (.bl true) S':=by show (jB 10 (ao ((ag P 12).f 19) [aa 0,cE (.int 3)]) 1 (lZ (ag P 12)) j7 [.cw (ns.map D.int)]).then _=_;rw[ef];rfl
 rw[this];rfl
end Q42
end
namespace L2
open PySem
theorem qm {M:Model}{A:Around}{E:Value->Sh->Prop}{α:Type}{s:Sh}{kd:Addr}{part:Option Value}{o:Obj}{F:Obj->Sem α}{Q:α->Sh->Prop}(ho:s.heap.get? kd=some o)(h:wpAny M A (F o) Q E s):wpAny M A (Sem.load kd part F) Q E s:=
 (wpAny_bind (wpAny_loadPart ho h):wpAny M A (loadPart kd part >>= F) Q E s)
theorem qQ {s:Sh}{fd:FuncData}{args:Args}{binds:List (Str×Value)}{kd:Addr}{p1 p2:Option Value}{o:Obj}{F1 F2:Obj->Sem (List (Str×Value))}(ho:s.heap.get? kd=some o)(h1:bindArgs fd args = .load kd p1 F1)(h2:F1 o = .load kd p2 F2)(h3:F2 o=pure binds):BindsTo s fd args binds:=λM A E Q hq=>by rw[h1];refine qm ho ?_;rw[h2];refine qm ho ?_;rw[h3];exact wpAny_pure hq
theorem bind1 {s:Sh}{fd:FuncData}{args:Args}{binds:List (Str×Value)}{kd:Addr}{p1:Option Value}{o:Obj}{F1:Obj->Sem (List (Str×Value))}(ho:s.heap.get? kd=some o)(h1:bindArgs fd args = .load kd p1 F1)(h3:F1 o=pure binds):BindsTo s fd args binds:=λM A E Q hq=>by rw[h1];refine qm ho ?_;rw[h3];exact wpAny_pure hq
theorem Cf {a b:Str}(pM:a≠b):∀{ks:List Str},(∀k∈ks,k=a\/k=b)->ks.Nodup->ks=[]\/ks=[a]\/ks=[b]\/ks=[a,b]\/ks=[b,a]
 | [],_,_=>.inl rfl
 | [x],h,_=>by
  rcases h x (by simp) with rfl|rfl
  .exact .inr (.inl rfl)
  .exact .inr (.inr (.inl rfl))
 | [x,y],h,n=>by
  rcases h x (by simp) with rfl|rfl<;>rcases h y (by simp) with rfl|rfl
  .simp at n
  .exact .inr (.inr (.inr (.inl rfl)))
  .exact .inr (.inr (.inr (.inr rfl)))
  .simp at n
 | x::y::z::r,h,n=>by have hx:=h x (by simp);have hy:=h y (by simp);have hz:=h z (by simp);simp only[List.nodup_cons,List.mem_cons,not_or] at n;obtain⟨⟨n1,n2,_⟩,⟨n3,_⟩,_⟩:=n;rcases hx with rfl|rfl<;>rcases hy with rfl|rfl<;>rcases hz with rfl|rfl<;>first | exact absurd rfl n1 | exact absurd rfl n2 | exact absurd rfl n3
theorem m5 {x:Str}{d:V}{d':Value}(hd:RelV d d'):∀{ks:List Str} {zs:List V} {ws:List Value},Vals zs ws->RelV (((ks.zip zs).lookup x).getD d) (((ks.zip ws).lookup x).getD d')
 | [],_,_,_=>hd
 | _::_,_,_,.nil=>hd
 | k::ks,_,_,.cons r rs=>by
  simp only[List.zip_cons_cons,List.lookup];cases x==k
  .exact m5 hd rs
  .exact r
theorem vV:∀{xs:List V} {us:List Value} {ys:List V} {vs:List Value},Vals xs us->Vals ys vs->Vals (xs++ys) (us++vs)
 | _,_,_,_,.nil,h=>h
 | _,_,_,_,.cons r rs,h=>.cons r (vV rs h)
end L2
namespace Q42
open PySem L2
noncomputable abbrev kwEs (h1 h2:Int)(tr tw ur uw:Tok):Array DictEntry:=#[⟨h1,.str "room" tr,.int 4 ur⟩,⟨h2,.str "wait" tw,.int 6 uw⟩]
theorem Eu {K:Fg}{kd:Addr}{okd:Value}{odk an:Option Addr}{h1 h2:Int}{tr tw ur uw:Tok}{ep:Nat}{sl:Array (Option Value)}{dc pm cd ct:Value}(lk:K.lookup kd=some ⟨okd,odk,.dict (kwEs h1 h2 tr tw ur uw) ep,sl⟩):
 jM K P.T 3 "__init__" (W.fnOf "__init__" "House.__init__" (df (aD (top 42) 0)) (cO (aD (top 42) 0)) (bo (aD (top 42) 0)) .none (.ref kd) dc pm an cd ct) ["self","number","sides","room","wait"]:=by
 have ekw:P.T.dt 3=([("room",.int 4),("wait",.int 6)]:List (Str×RF.D)):=rfl;refine .inl ⟨rfl,by rw[ekw];simp,by rw[ekw];decide,λks hk hn=>?_⟩;rw[ekw] at hk ⊢;have hks:=Cf (a:=("room":Str)) (b:=("wait":Str)) (by decide +kernel) (ks:=ks) (λk h=>by have:=List.all_eq_true.mp hk k h;simp only[List.any_cons,List.any_nil,Bool.or_false,Bool.or_eq_true,decide_eq_true_eq] at this;exact this.imp Eq.symm Eq.symm) hn;refine⟨λus ws=>us++[((ks.zip ws).lookup ("room":Str)).getD (.int 4 ur),((ks.zip ws).lookup ("wait":Str)).getD (.int 6 uw)],⟨λs us ws X hl=>?_,λ{vs us zs ws} r rz=>?_⟩⟩
 .have ho:=X _ _ lk
  match us,hl with
  | [a,b,c],_=>
   rcases hks with rfl|rfl|rfl|rfl|rfl
   .exact qQ ho rfl rfl rfl
   .match ws with
    | []=>exact qQ ho rfl rfl rfl
    | x::_=>exact bind1 ho rfl rfl
   .match ws with
    | []=>exact qQ ho rfl rfl rfl
    | x::_=>exact bind1 ho rfl rfl
   .match ws with
    | []=>exact qQ ho rfl rfl rfl
    | [x]=>exact bind1 ho rfl rfl
    | x::y::_=>exact .of_eq rfl
   .match ws with
    | []=>exact qQ ho rfl rfl rfl
    | [x]=>exact bind1 ho rfl rfl
    | x::y::_=>exact .of_eq rfl
  | [],h=>simp at h
  | [_],h=>simp at h
  | [_,_],h=>simp at h
  | _::_::_::_::_,h=>simp at h
 .exact vV r (.cons (m5 (d:=.int 4) (d':=.int 4 ur) ⟨_,rfl⟩ rz) (.cons (m5 (d:=.int 6) (d':=.int 6 uw) ⟨_,rfl⟩ rz) .nil))
end Q42
namespace Q42
open PySem L2
noncomputable abbrev il (s:Stmt):RF.Fn:=(RF.fnOf s).getD ⟨[],[],bo s,[],false⟩
theorem Lg {us:List Value}(h:us.length=1):∃a,us=[a]:=List.length_eq_one_iff.mp h
theorem OQ {us:List Value}(h:us.length=2):∃a b,us=[a,b]:=match us,h with
 | [_,_],_=>⟨_,_,rfl⟩
theorem OH {us:List Value}(h:us.length=3):∃a b c,us=[a,b,c]:=match us,h with
 | [_,_,_],_=>⟨_,_,_,rfl⟩
theorem OE {us:List Value}(h:us.length=4):∃a b c d,us=[a,b,c,d]:=match us,h with
 | [_,_,_,_],_=>⟨_,_,_,_,rfl⟩
theorem OT {us:List Value}(h:us.length=5):∃a b c d e,us=[a,b,c,d,e]:=match us,h with
 | [_,_,_,_,_],_=>⟨_,_,_,_,_,rfl⟩
theorem gQ {K:Fg}{x q:Str}{st:Stmt}{f:Addr}{fd:FuncData}{ps:List Str}(F:gm K x q st f fd)(hp:ps.length=1)(h:∀kV doc pm an cd ct a,bindArgs (W.fnOf x q (df st) (cO st) (bo st) .none kV doc pm an cd ct) ⟨[a],[]⟩=pure (ps.zip [a])):Binds K fd ps []:=F.binds λkV doc pm an cd ct us hl=>by obtain⟨a,rfl⟩:=Lg (hl.trans hp);exact h kV doc pm an cd ct a
theorem jJ {K:Fg}{x q:Str}{st:Stmt}{f:Addr}{fd:FuncData}{ps:List Str}(F:gm K x q st f fd)(hp:ps.length=2)(h:∀kV doc pm an cd ct a b,bindArgs (W.fnOf x q (df st) (cO st) (bo st) .none kV doc pm an cd ct) ⟨[a,b],[]⟩=pure (ps.zip [a,b])):Binds K fd ps []:=F.binds λkV doc pm an cd ct us hl=>by obtain⟨a,b,rfl⟩:=OQ (hl.trans hp);exact h kV doc pm an cd ct a b
theorem qV {K:Fg}{x q:Str}{st:Stmt}{f:Addr}{fd:FuncData}{ps:List Str}(F:gm K x q st f fd)(hp:ps.length=3)(h:∀kV doc pm an cd ct a b c,bindArgs (W.fnOf x q (df st) (cO st) (bo st) .none kV doc pm an cd ct) ⟨[a,b,c],[]⟩=pure (ps.zip [a,b,c])):Binds K fd ps []:=F.binds λkV doc pm an cd ct us hl=>by obtain⟨a,b,c,rfl⟩:=OH (hl.trans hp);exact h kV doc pm an cd ct a b c
theorem K8 {K:Fg}{x q:Str}{st:Stmt}{f:Addr}{fd:FuncData}{ps:List Str}(F:gm K x q st f fd)(hp:ps.length=4)(h:∀kV doc pm an cd ct a b c d,bindArgs (W.fnOf x q (df st) (cO st) (bo st) .none kV doc pm an cd ct) ⟨[a,b,c,d],[]⟩=pure (ps.zip [a,b,c,d])):Binds K fd ps []:=F.binds λkV doc pm an cd ct us hl=>by obtain⟨a,b,c,d,rfl⟩:=OE (hl.trans hp);exact h kV doc pm an cd ct a b c d
theorem Po {K:Fg}{x q:Str}{st:Stmt}{f:Addr}{fd:FuncData}{ps:List Str}(F:gm K x q st f fd)(hp:ps.length=5)(h:∀kV doc pm an cd ct a b c d e,bindArgs (W.fnOf x q (df st) (cO st) (bo st) .none kV doc pm an cd ct) ⟨[a,b,c,d,e],[]⟩=pure (ps.zip [a,b,c,d,e])):Binds K fd ps []:=F.binds λkV doc pm an cd ct us hl=>by obtain⟨a,b,c,d,e,rfl⟩:=OT (hl.trans hp);exact h kV doc pm an cd ct a b c d e
noncomputable abbrev FU (K:Fg)(x:Str)(k:Nat)(f:Addr):Prop:=W.nsIn K mainGlobals x=some (some (.ref f))/\∃fd,gm K x x (top k) f fd
noncomputable abbrev MU (K:Fg)(C:Addr)(x q:Str)(k j:Nat)(f:Addr):Prop:=W.findIn K (.ref C) x=some (some (.ref f))/\W.isFn K (.ref f)=true/\∃fd,gm K x q (aD (top k) j) f fd
noncomputable abbrev nh (K:Fg)(C:Addr):List Str->Prop
 | []=>True
 | x::r=>W.findIn K (.ref C) x=some none/\nh K C r
theorem nh.at {K:Fg}{C:Addr}{x:Str}:∀{l:List Str},nh K C l->x∈l->gY K C x
 | [],_,h=>by cases h
 | y::r,f,h=>by
  rcases List.mem_cons.mp h with rfl | h
  .exact f.1
  .exact nh.at f.2 h
noncomputable def _root_.RF.Tab.free (T:RF.Tab)(c:Nat):List Str:=(T.cQ.zipIdx.filter λp=>T.plain c p.2).map (·.1)
theorem _root_.RF.DM {T:RF.Tab}{c f:Nat}{x:Str}(hp:T.plain c f=true)(hx:T.cQ[f]?=some x):x∈T.free c:=by unfold RF.Tab.free;refine List.mem_map.mpr ⟨(x,f),List.mem_filter.mpr ⟨?_,hp⟩,rfl⟩;exact List.mem_zipIdx_iff_getElem?.mpr hx
theorem HP {a b c d:Nat}(h:(a==b&&c==d)=true):a=b/\c=d:=by simpa using h
theorem dw {K:Fg}{W:bj}{c m k j:Nat}{x q:Str}{f:Addr}(M:MU K (W.c c) x q k j f)(b:∀fd,gm K x q (aD (top k) j) f fd->Binds K fd (il (aD (top k) j)).ps [])(h7:gB K (W.c c))(h1:(P.ms.find? λy=>y.1==c&&y.2.1==m)=some (c,m,aD (top k) j):=by rfl)(h2:RF.fnOf (aD (top k) j)=some (il (aD (top k) j)):=by rfl)(h3:(jK (il (aD (top k) j)) && !decide (x = "__init__"))=true:=by decide +kernel):z8 K W P c m x:=by
 obtain⟨a,i,fd,F⟩:=M;have h3:=Bool.and_eq_true_iff.mp h3;have hn:x ≠ "__init__":=by simpa using h3.2
 exact kW F h1 h2 h3.1 ⟨a,i,F.kp⟩ (.inr ⟨λz=>absurd z hn,b fd F⟩) (λz=>absurd z hn) h7
theorem cR {K:Fg}{h:Heap}{mg:Str->Option Value}{i k:Nat}{x:Str}{f:Addr}(X:K.In h)(G:h.Ns mainGlobals mg)(M:FU K x k f)(b:∀fd,gm K x x (top k) f fd->Binds K fd (il (top k)).ps [])(h1:P.fs[i]?=some (top k):=by rfl)(h2:RF.fnOf (top k)=some (il (top k)):=by rfl)(h3:jK (il (top k))=true:=by decide +kernel):AQ K mg P x i:=by obtain⟨a,fd,F⟩:=M;exact y8 F h1 h2 h3 (W.mg_of X G a) (b fd F)
theorem all_mk {l:W.OpenLaw}{w:World}{K:Fg}{h:Heap}{mg:Str->Option Value}{fa C0 C1 C2 C3 fu0 fu1 fu2 fu3 fu4 fu5 fu6 fu7 fu8 fu9 fu10 fu11 fu12 fu13 fu14 fu15 fu16 fu17 fu18 fu19 fu20 fu21 fu22 fu23 fu24 F9 fm0_0 fm0_1 fm0_2 fm0_3 fm0_5 fm1_0 fm1_1 fm1_3 fm1_4 fm1_8 fm2_0 fm3_0 fm3_1 fm3_2 fm3_3 fm3_6 fm3_8 fm3_14 fm3_15 fm3_16 fm3_17 fm3_18 fm3_19 fm3_20 M7:Addr}(X:K.In h)(G:h.Ns mainGlobals mg)(hfa:mg "law" = some (.ref fa))
 {Oh Hf odm3_0 anm3_0  odk3:Option Addr} {Oi slm3_0  slk3:Array (Option Value)}
 {Oj Hg Hh Hi Bk Hj ocm3_0 dcm3_0 pmm3_0 ctm3_0 cdm3_0 okd3:Value} {t0 t1 t2 t3 t4 t5 t6 t7 tkr3 tkw3 ukr3 ukw3:Tok} { epk3:Nat} {hh1_3 hh2_3:Int}
 (aC0:W.nsIn K mainGlobals "Keeps" = some (some (.ref C0)))
 (aC1:W.nsIn K mainGlobals "Table" = some (some (.ref C1)))
 (aC2:W.nsIn K mainGlobals "Wait" = some (some (.ref C2)))
 (aC3:W.nsIn K mainGlobals "House" = some (some (.ref C3)))
 (u0:FU K "is_whole" 12 fu0)
 (u1:FU K "is_within" 13 fu1)
 (u2:FU K "is_value" 14 fu2)
 (u3:FU K "is_side" 15 fu3)
 (u4:FU K "is_tick" 16 fu4)
 (u5:FU K "is_sides" 17 fu5)
 (u6:FU K "need_within" 18 fu6)
 (u7:FU K "need_value" 19 fu7)
 (u8:FU K "need_tick" 21 fu8)
 (u9:FU K "need_sides" 22 fu9)
 (u10:FU K "is_part" 27 fu10)
 (u11:FU K "is_name" 28 fu11)
 (u12:FU K "is_beginning" 29 fu12)
 (u13:FU K "need_name" 30 fu13)
 (u14:FU K "need_beginning" 31 fu14)
 (u15:FU K "is_letter" 40 fu15)
 (u16:FU K "_law_cell" 44 fu16)
 (u17:FU K "_law_drawn" 45 fu17)
 (u18:FU K "_law_roll" 46 fu18)
 (u19:FU K "_law_rounds" 47 fu19)
 (u20:FU K "_law_head" 48 fu20)
 (u21:FU K "_law_any_name" 49 fu21)
 (u22:FU K "_law_some_sides" 50 fu22)
 (u23:FU K "_law_some_letter" 51 fu23)
 (u24:FU K "_law_made_of" 52 fu24)
 (M8:W.nsIn K mainGlobals "law" = some (some (.ref F9)))
 (lu25:K.lookup F9=some ⟨Oj,Oh,.func (W.fnOf "law" "law" (df (top 53)) (cO (top 53)) (bo (top 53)) .none Hj Hg Hh Hf Bk Hi),Oi⟩)
 (Ol:W.codeIn K Bk "law" = true)
 (ku25:W.keepIn K (.ref F9)=true)
 (m0_0:MU K C0 "__init__" "Keeps.__init__" 34 0 fm0_0)
 (m0_1:MU K C0 "put" "Keeps.put" 34 1 fm0_1)
 (m0_2:MU K C0 "got" "Keeps.got" 34 2 fm0_2)
 (m0_3:MU K C0 "aged" "Keeps.aged" 34 3 fm0_3)
 (m0_5:MU K C0 "__len__" "Keeps.__len__" 34 5 fm0_5)
 (m1_0:MU K C1 "__init__" "Table.__init__" 36 0 fm1_0)
 (m1_1:MU K C1 "put" "Table.put" 36 1 fm1_1)
 (m1_3:MU K C1 "way" "Table.way" 36 3 fm1_3)
 (m1_4:MU K C1 "sides" "Table.sides" 36 4 fm1_4)
 (m1_8:MU K C1 "__len__" "Table.__len__" 36 8 fm1_8)
 (m2_0:MU K C2 "__init__" "Wait.__init__" 41 0 fm2_0)
 (am3_0:W.findIn K (.ref C3) "__init__" = some (some (.ref fm3_0)))
 (im3_0:W.isFn K (.ref fm3_0)=true)
 (lm3_0:K.lookup fm3_0=some ⟨ocm3_0,odm3_0,.func (W.fnOf "__init__" "House.__init__" (df (aD (top 42) 0)) (cO (aD (top 42) 0)) (bo (aD (top 42) 0)) .none (.ref M7) dcm3_0 pmm3_0 anm3_0 cdm3_0 ctm3_0),slm3_0⟩)
 (lkd3:K.lookup M7=some ⟨okd3,odk3,.dict (kwEs hh1_3 hh2_3 tkr3 tkw3 ukr3 ukw3) epk3,slk3⟩)
 (cm3_0d:W.codeIn K cdm3_0 "House.__init__" = true)
 (km3_0:W.keepIn K (.ref fm3_0)=true)
 (m3_1:MU K C3 "ask" "House.ask" 42 1 fm3_1)
 (m3_2:MU K C3 "come" "House.come" 42 2 fm3_2)
 (m3_3:MU K C3 "tick" "House.tick" 42 3 fm3_3)
 (m3_6:MU K C3 "teach" "House.teach" 42 6 fm3_6)
 (m3_8:MU K C3 "end" "House.end" 42 8 fm3_8)
 (m3_14:MU K C3 "toward" "House.toward" 42 14 fm3_14)
 (m3_15:MU K C3 "found" "House.found" 42 15 fm3_15)
 (m3_16:MU K C3 "answered" "House.answered" 42 16 fm3_16)
 (m3_17:MU K C3 "told_thing" "House.told_thing" 42 17 fm3_17)
 (m3_18:MU K C3 "told_no" "House.told_no" 42 18 fm3_18)
 (m3_19:MU K C3 "ended" "House.ended" 42 19 fm3_19)
 (m3_20:MU K C3 "told" "House.told" 42 20 fm3_20)
 (pg0:W.plainGet K C0 Str.empty=true)
 (hd0:W.hasDictIn K C0=true)
 (po0:W.plainOver K C0=true)
 (sa0:W.findIn K (.ref C0) "__setattr__" = some (some (.builtin "object.__setattr__")))
 (mk0:W.makesIn K C0=true)
 (kc0:W.keepIn K (.ref C0)=true)
 (fr0:nh K C0 ("answered" :: "append" :: "ask" :: "asked" :: "askers" :: "beside" :: "come" :: "end" :: "ended" :: "ends" :: "extend" :: "found" :: "get" :: "heard" :: "held" :: "insert" :: "kept" :: "learned" :: "noes" :: "number" :: "patience" :: "pop" :: "remove" :: "room" :: "sides" :: "since" :: "store" :: "teach" :: "things" :: "tick" :: "told" :: "told_no" :: "told_thing" :: "toward" :: "waiting" :: "way" :: []))
 (pg1:W.plainGet K C1 Str.empty=true)
 (fI:W.hasDictIn K C1=true)
 (po1:W.plainOver K C1=true)
 (sa1:W.findIn K (.ref C1) "__setattr__" = some (some (.builtin "object.__setattr__")))
 (mk1:W.makesIn K C1=true)
 (kc1:W.keepIn K (.ref C1)=true)
 (fr1:nh K C1 ("aged" :: "answered" :: "append" :: "ask" :: "asked" :: "askers" :: "beside" :: "come" :: "end" :: "ended" :: "ends" :: "extend" :: "found" :: "get" :: "got" :: "heard" :: "held" :: "insert" :: "kept" :: "learned" :: "noes" :: "number" :: "patience" :: "pop" :: "remove" :: "room" :: "since" :: "store" :: "teach" :: "things" :: "tick" :: "told" :: "told_no" :: "told_thing" :: "toward" :: "waiting" :: []))
 (pg2:W.plainGet K C2 Str.empty=true)
 (hd2:W.hasDictIn K C2=true)
 (po2:W.plainOver K C2=true)
 (sa2:W.findIn K (.ref C2) "__setattr__" = some (some (.builtin "object.__setattr__")))
 (mk2:W.makesIn K C2=true)
 (kc2:W.keepIn K (.ref C2)=true)
 (fr2:nh K C2 ("__len__" :: "aged" :: "answered" :: "append" :: "ask" :: "asked" :: "askers" :: "beside" :: "come" :: "end" :: "ended" :: "ends" :: "extend" :: "found" :: "get" :: "got" :: "heard" :: "held" :: "insert" :: "kept" :: "learned" :: "noes" :: "number" :: "patience" :: "pop" :: "put" :: "remove" :: "room" :: "sides" :: "since" :: "store" :: "teach" :: "things" :: "tick" :: "told" :: "told_no" :: "told_thing" :: "toward" :: "waiting" :: "way" :: []))
 (pg3:W.plainGet K C3 Str.empty=true)
 (gT:W.hasDictIn K C3=true)
 (po3:W.plainOver K C3=true)
 (sa3:W.findIn K (.ref C3) "__setattr__" = some (some (.builtin "object.__setattr__")))
 (mk3:W.makesIn K C3=true)
 (kc3:W.keepIn K (.ref C3)=true)
 (xC:nh K C3 ("__len__" :: "aged" :: "append" :: "asked" :: "askers" :: "beside" :: "ends" :: "extend" :: "get" :: "got" :: "heard" :: "held" :: "insert" :: "kept" :: "learned" :: "noes" :: "number" :: "patience" :: "pop" :: "put" :: "remove" :: "room" :: "sides" :: "since" :: "store" :: "things" :: "waiting" :: "way" :: []))
 (gc0:W.nsIn K mainGlobals "VALUE_MOST" = some (some (.int 999 t0)))
 (gc1:W.nsIn K mainGlobals "SIDE_MOST" = some (some (.int 7 t1)))
 (gc2:W.nsIn K mainGlobals "SIGNS" = some (some (.str "abcdefghijklmnopqrstuvwxyz0123456789" t2)))
 (gc3:W.nsIn K mainGlobals "PART_LONGEST" = some (some (.int 4 t3)))
 (gc4:W.nsIn K mainGlobals "NAME_LONGEST" = some (some (.int 5 t4)))
 (gc5:W.nsIn K mainGlobals "ROOM_MOST" = some (some (.int 9 t5)))
 (gc6:W.nsIn K mainGlobals "WAIT_LEAST" = some (some (.int 1 t6)))
 (gc7:W.nsIn K mainGlobals "WAIT_MOST" = some (some (.int 20 t7)))
 (zn0:W.nsIn K mainGlobals "isinstance" = some none)
 (zn1:W.nsIn K mainGlobals "int" = some none)
 (zn2:W.nsIn K mainGlobals "bool" = some none)
 (zn3:W.nsIn K mainGlobals "str" = some none)
 (zn4:W.nsIn K mainGlobals "tuple" = some none)
 (zn5:W.nsIn K mainGlobals "list" = some none)
 (zn6:W.nsIn K mainGlobals "len" = some none)
 (zn7:W.nsIn K mainGlobals "all" = some none)
 (zn8:W.nsIn K mainGlobals "max" = some none)
 (zn9:W.nsIn K mainGlobals "min" = some none)
 (zn10:W.nsIn K mainGlobals "range" = some none)
 (zn11:W.nsIn K mainGlobals "set" = some none):
 ∃fd:FuncData,(∀(s:Sh) (v:Value),BindsTo s fd ⟨[v],[]⟩ [("_law_script",v)])/\∀base:Heap,K.In base->base.Ns mainGlobals mg->p9 mg base->dM l.prog w K mg base (kQ l.prog w) (4*12+4) fa fd ["_law_script"] (vh K P.T [] ((RF.calls P (12+1)).f 25)):=by
 have e:=hfa.symm.trans (W.mg_of X G M8);cases e;have Ga:=rl (st:=top 53) lu25 Ol ku25;have Fm3_0:=rl (st:=aD (top 42) 0) lm3_0 cm3_0d km3_0;have bm3_0:=Eu (an:=anm3_0) (dc:=dcm3_0) (pm:=pmm3_0) (cd:=cdm3_0) (ct:=ctm3_0) lkd3;have bl:=Ga.binds (ps:=["_law_script"]) λ_ _ _ _ _ _ us hl=>by obtain⟨_,rfl⟩:=Lg hl;rfl
 have zE:gB K C0:=⟨pg0,hd0,po0,sa0⟩;have zF:gB K C1:=⟨pg1,fI,po1,sa1⟩;have CL2:gB K C2:=⟨pg2,hd2,po2,sa2⟩;have kD:gB K C3:=⟨pg3,gT,po3,sa3⟩;refine⟨W.fnOf "law" "law" (df (top 53)) (cO (top 53)) (bo (top 53)) .none Hj Hg Hh Hf Bk Hi,λs v=>.of_eq rfl,λbase _ _ BM=>?_⟩;have GG:A6 l.prog w K mg base ⟨P.T,λc=>[C0,C1,C2,C3].getD c 0,λc=>[].getD c 0,[],dE l.prog w⟩ P:=by
  refine⟨rfl,λx d hx=>?_,λx i hx=>?_,λx c hx=>?_,λc hc=>?_,λc f x hc hp hx=>?_,λc m x hM hx=>?_,λx hx=>?_,rfl⟩
  .obtain⟨p,hp,e1,e2⟩:=lookup_mem hx;subst e1 e2;simp only[P,T,List.mem_cons,List.not_mem_nil,or_false] at hp;rcases hp with rfl|rfl|rfl|rfl|rfl|rfl|rfl|rfl
   .exact⟨_,V.int 999,W.mg_of X G gc0,⟨_,rfl⟩,λ_ _=>.int _⟩
   .exact⟨_,V.int 7,W.mg_of X G gc1,⟨_,rfl⟩,λ_ _=>.int _⟩
   .exact⟨_,V.str "abcdefghijklmnopqrstuvwxyz0123456789",W.mg_of X G gc2,⟨_,rfl⟩,λ_ _=>.str _⟩
   .exact⟨_,V.int 4,W.mg_of X G gc3,⟨_,rfl⟩,λ_ _=>.int _⟩
   .exact⟨_,V.int 5,W.mg_of X G gc4,⟨_,rfl⟩,λ_ _=>.int _⟩
   .exact⟨_,V.int 9,W.mg_of X G gc5,⟨_,rfl⟩,λ_ _=>.int _⟩
   .exact⟨_,V.int 1,W.mg_of X G gc6,⟨_,rfl⟩,λ_ _=>.int _⟩
   .exact⟨_,V.int 20,W.mg_of X G gc7,⟨_,rfl⟩,λ_ _=>.int _⟩
  .have hx:=cK hx;show AQ K mg P x i
   match i,hx with
   | 0,hx=>cases hx;exact cR X G u0 (λ_ F=>gQ F rfl (by intros;rfl))
   | 1,hx=>cases hx;exact cR X G u1 (λ_ F=>qV F rfl (by intros;rfl))
   | 2,hx=>cases hx;exact cR X G u2 (λ_ F=>gQ F rfl (by intros;rfl))
   | 3,hx=>cases hx;exact cR X G u3 (λ_ F=>gQ F rfl (by intros;rfl))
   | 4,hx=>cases hx;exact cR X G u4 (λ_ F=>gQ F rfl (by intros;rfl))
   | 5,hx=>cases hx;exact cR X G u5 (λ_ F=>gQ F rfl (by intros;rfl))
   | 6,hx=>cases hx;exact cR X G u6 (λ_ F=>qV F rfl (by intros;rfl))
   | 7,hx=>cases hx;exact cR X G u7 (λ_ F=>gQ F rfl (by intros;rfl))
   | 8,hx=>cases hx;exact cR X G u8 (λ_ F=>gQ F rfl (by intros;rfl))
   | 9,hx=>cases hx;exact cR X G u9 (λ_ F=>gQ F rfl (by intros;rfl))
   | 10,hx=>cases hx;exact cR X G u10 (λ_ F=>gQ F rfl (by intros;rfl))
   | 11,hx=>cases hx;exact cR X G u11 (λ_ F=>gQ F rfl (by intros;rfl))
   | 12,hx=>cases hx;exact cR X G u12 (λ_ F=>gQ F rfl (by intros;rfl))
   | 13,hx=>cases hx;exact cR X G u13 (λ_ F=>gQ F rfl (by intros;rfl))
   | 14,hx=>cases hx;exact cR X G u14 (λ_ F=>gQ F rfl (by intros;rfl))
   | 15,hx=>cases hx;exact cR X G u15 (λ_ F=>gQ F rfl (by intros;rfl))
   | 16,hx=>cases hx;exact cR X G u16 (λ_ F=>jJ F rfl (by intros;rfl))
   | 17,hx=>cases hx;exact cR X G u17 (λ_ F=>jJ F rfl (by intros;rfl))
   | 18,hx=>cases hx;exact cR X G u18 (λ_ F=>jJ F rfl (by intros;rfl))
   | 19,hx=>cases hx;exact cR X G u19 (λ_ F=>jJ F rfl (by intros;rfl))
   | 20,hx=>cases hx;exact cR X G u20 (λ_ F=>gQ F rfl (by intros;rfl))
   | 21,hx=>cases hx;exact cR X G u21 (λ_ F=>gQ F rfl (by intros;rfl))
   | 22,hx=>cases hx;exact cR X G u22 (λ_ F=>jJ F rfl (by intros;rfl))
   | 23,hx=>cases hx;exact cR X G u23 (λ_ F=>jJ F rfl (by intros;rfl))
   | 24,hx=>cases hx;exact cR X G u24 (λ_ F=>gQ F rfl (by intros;rfl))
   | 25,hx=>cases hx;exact y8 (g:=il (top 53)) Ga rfl rfl (by decide +kernel) (W.mg_of X G M8) bl
   | i+26,hx=>exact absurd hx (by simp[P,T])
  .have hx:=cK hx
   match c,hx with
   | 0,hx=>cases hx;exact W.mg_of X G aC0
   | 1,hx=>cases hx;exact W.mg_of X G aC1
   | 2,hx=>cases hx;exact W.mg_of X G aC2
   | 3,hx=>cases hx;exact W.mg_of X G aC3
   | c+4,hx=>exact absurd hx (by simp[P,T])
  .match c,hc with
   | 0,_=>exact zE
   | 1,_=>exact zF
   | 2,_=>exact CL2
   | 3,_=>exact kD
   | c+4,hc=>exact absurd hc (by simp[P,T])
  .have hm:=RF.DM hp hx
   match c,hc with
   | 0,_=>exact fr0.at hm
   | 1,_=>exact fr1.at hm
   | 2,_=>exact fr2.at hm
   | 3,_=>exact xC.at hm
   | c+4,hc=>exact absurd hc (by simp[P,T])
  .show z8 K _ P c m x;obtain⟨p,hp,e⟩:=List.any_eq_true.mp hM;obtain⟨e1,e2⟩:=HP e;subst e1 e2;simp only[P,T,List.mem_cons,List.not_mem_nil,or_false] at hp;rcases hp with rfl|rfl|rfl|rfl|rfl|rfl|rfl|rfl|rfl|rfl|rfl|rfl|rfl|rfl|rfl|rfl|rfl|rfl|rfl|rfl|rfl|rfl|rfl|rfl<;>cases hx
   .obtain⟨am0_0,im0_0,_,Fm0_0⟩:=m0_0;exact kW (g:=il (aD (top 34) 0)) Fm0_0 rfl rfl (by decide +kernel) ⟨am0_0,im0_0,Fm0_0.kp⟩ (.inr ⟨λ_=>rfl,(jJ Fm0_0 rfl (by intros;rfl))⟩) (λ_=>⟨mk0,am0_0,im0_0,kc0⟩) zE
   .exact dw m0_1 (λ_ F=>Po F rfl (by intros;rfl)) zE
   .exact dw m0_2 (λ_ F=>qV F rfl (by intros;rfl)) zE
   .exact dw m0_3 (λ_ F=>jJ F rfl (by intros;rfl)) zE
   .exact dw m0_5 (λ_ F=>gQ F rfl (by intros;rfl)) zE
   .obtain⟨am1_0,im1_0,_,Fm1_0⟩:=m1_0;exact kW (g:=il (aD (top 36) 0)) Fm1_0 rfl rfl (by decide +kernel) ⟨am1_0,im1_0,Fm1_0.kp⟩ (.inr ⟨λ_=>rfl,(gQ Fm1_0 rfl (by intros;rfl))⟩) (λ_=>⟨mk1,am1_0,im1_0,kc1⟩) zF
   .exact dw m1_1 (λ_ F=>qV F rfl (by intros;rfl)) zF
   .exact dw m1_3 (λ_ F=>jJ F rfl (by intros;rfl)) zF
   .exact dw m1_4 (λ_ F=>jJ F rfl (by intros;rfl)) zF
   .exact dw m1_8 (λ_ F=>gQ F rfl (by intros;rfl)) zF
   .obtain⟨am2_0,im2_0,_,Fm2_0⟩:=m2_0;exact kW (g:=il (aD (top 41) 0)) Fm2_0 rfl rfl (by decide +kernel) ⟨am2_0,im2_0,Fm2_0.kp⟩ (.inr ⟨λ_=>rfl,(jJ Fm2_0 rfl (by intros;rfl))⟩) (λ_=>⟨mk2,am2_0,im2_0,kc2⟩) CL2
   .exact kW (g:=il (aD (top 42) 0)) Fm3_0 rfl rfl (by decide +kernel) ⟨am3_0,im3_0,Fm3_0.kp⟩ bm3_0 (λ_=>⟨mk3,am3_0,im3_0,kc3⟩) kD
   .exact dw m3_1 (λ_ F=>qV F rfl (by intros;rfl)) kD
   .exact dw m3_2 (λ_ F=>K8 F rfl (by intros;rfl)) kD
   .exact dw m3_3 (λ_ F=>jJ F rfl (by intros;rfl)) kD
   .exact dw m3_6 (λ_ F=>qV F rfl (by intros;rfl)) kD
   .exact dw m3_8 (λ_ F=>jJ F rfl (by intros;rfl)) kD
   .exact dw m3_14 (λ_ F=>jJ F rfl (by intros;rfl)) kD
   .exact dw m3_15 (λ_ F=>qV F rfl (by intros;rfl)) kD
   .exact dw m3_16 (λ_ F=>K8 F rfl (by intros;rfl)) kD
   .exact dw m3_17 (λ_ F=>K8 F rfl (by intros;rfl)) kD
   .exact dw m3_18 (λ_ F=>qV F rfl (by intros;rfl)) kD
   .exact dw m3_19 (λ_ F=>jJ F rfl (by intros;rfl)) kD
   .exact dw m3_20 (λ_ F=>qV F rfl (by intros;rfl)) kD
  .simp only[cI,List.mem_cons,List.not_mem_nil,or_false] at hx;rcases hx with rfl|rfl|rfl|rfl|rfl|rfl|rfl|rfl|rfl|rfl|rfl|rfl
   .exact W.mg_none_of X G zn0
   .exact W.mg_none_of X G zn1
   .exact W.mg_none_of X G zn2
   .exact W.mg_none_of X G zn3
   .exact W.mg_none_of X G zn4
   .exact W.mg_none_of X G zn5
   .exact W.mg_none_of X G zn6
   .exact W.mg_none_of X G zn7
   .exact W.mg_none_of X G zn8
   .exact W.mg_none_of X G zn9
   .exact W.mg_none_of X G zn10
   .exact W.mg_none_of X G zn11
 exact L9 (g:=il (top 53)) GG Ga rfl rfl (by decide +kernel) rfl
theorem nd:P.T.cQ.Nodup:=lV (by decide +kernel)
theorem walk {l:PySem.W.OpenLaw}{q:Program}{loose:List Str}{XP:(Str->Option Value)->Heap->Prop}{YP:World->Heap->Prop}{d:DefRec}{K:Params->Fg}(hn:l.most=some 63)(DB:d.params.defaults=[])
 (hY:∀(w:World) (h:Heap),YP w h->(K w.params).In h)
 (F:∀(w:World) (mg:Str->Option Value) (fa:Addr) (h:Heap),(K w.params).In h->h.Ns mainGlobals mg->mg d.name=some (.ref fa) ->
   ∃fd:FuncData,(∀(s:Sh) (u:Value),BindsTo s fd ⟨[u],[]⟩ [("_law_script",u)])/\∀base:Heap,(K w.params).In base->base.Ns mainGlobals mg->p9 mg base->dM l.prog w (K w.params) mg base (kQ l.prog w) (4*12+4) fa fd ["_law_script"] (vh (K w.params) P.T [] ((RF.calls P (12+1)).f 25))):
 PySem.W.WalkO q loose XP YP l.row.toRowW d [] (λf vs=>PySem.call f vs):=
 L2.EM (n:=63) (k:=4*12+4) (x:="_law_script") (CX:=λw=>kQ l.prog w) (sp:=λw=>vh (K w.params) P.T [] ((RF.calls P (12+1)).f 25)) [] hn (by decide) DB ⟨rfl,by decide,by decide⟩ hY
  (λw h Y X P hP=>by cases hP) (λw P hP=>by cases hP) F
  (λ_ _ a ns hl hP hS=>⟨rfl,λW hW hb=>by obtain⟨S',e⟩:=DS ns hl;exact Ma (by rw[hW];exact nd) (by rw[hb];intro p hp;cases hp) e hS⟩) λ_ _ _ _ _ ⟨_,_,_,_,_,_,_,_,_,_,_,_,_,_,_,_,_,_,_,h⟩=>h
end Q42
section
open PySem PySem.W PyProof.Rows
local macro_rules
 | `(tactic| rfl')=>`(tactic| first | k_is | rfl | (refine' ⟨?a,_,L2.rl ?l ?c ?k⟩;(case a=>k_is);(case l=>k_is);(case c=>k_is);(case k=>k_is)) | (refine' ⟨?a,?i,_,L2.rl ?l ?c ?k⟩;(case a=>k_is);(case i=>k_is);(case l=>k_is);(case c=>k_is);(case k=>k_is)) | (repeat (first | exact trivial | refine⟨by k_is,?_⟩ | refine⟨⟨by k_is,rfl⟩,?_⟩)))
set_option maxRecDepth 100000 in
set_option maxHeartbeats 0 in
theorem PySem.Challenge.cw_namewants_k42_whole_ends_holds : PySem.Challenge.rw_namewants_k42_whole_ends.Holds := by
 w_on;o_law
 refine holds_open (N:=12000) (q:=Q42.vw) (loose:=["House"]) (Xt:=λs=>PySem.W.xlAt Q42.vw [] s&&PySem.W.recOk (PySem.W.RowW.records (PySem.W.OpenRow.toRowW (PySem.W.OpenLaw.row PySem.Challenge.rw_namewants_k42_whole_ends))) s)
  (XP:=XL Q42.vw []) (Yf:=Hook.obs (kmHook Q42.Kf Q42.Gw (λ_=>by kernel_rfl) []))
  (Ya:=Hook.val (kmHook Q42.Kf Q42.Gw (λ_=>by kernel_rfl) []))
  (YP:=Hook.says (kmHook Q42.Kf Q42.Gw (λ_=>by kernel_rfl) [])) ?hl (Hook.of _) (Hook.keeps _)
  (λs e=>xl_of s (Bool.and_eq_true_iff.mp e).1)
  XL.keeps (by rfl) (by rfl) (by rfl)
  (λs e=>recFacts_of (Bool.and_eq_true_iff.mp e).2)
  (by rfl) (by assumption) (by decide +kernel)
  ⟨rfl,rfl,rfl,rfl,rfl,by decide +kernel⟩ ?hw ?hc
 (case hl=>exact TreeRun.Ez (by kernel_rfl) rfl (λ_=>rfl) (List.take_append_drop 34 _) (by decide) Q42.O6 Q42.OP Q42.OR Q42.Jq Q42.Fj Q42.Hz)
 (case hw=>w_witness2)
 k_fill
 refine Q42.walk (l:=PySem.Challenge.rw_namewants_k42_whole_ends) rfl rfl (λw h Y=>PySem.W.km_in_of Y) ?F
 case F=>
  intro w mg fa h KX G DC;apply Q42.all_mk KX G DC
  all_goals try rfl'
#print axioms PySem.Challenge.cw_namewants_k42_whole_ends_holds
end
