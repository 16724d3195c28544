import PyProof.Rows.All
import Wide.All
import OpenK.AllK
import Wide.FinOn
import Lean
import PyProof.EqAt
import PyProof.EqKinds
import PyProof.TupleCall
import PySem.Challenge.RW_leastasked_k04_refused
set_option Elab.async false
set_option linter.all false
set_option maxRecDepth 100000
namespace L2
open PySem PySem.Spec PyProof.Rows
def inClass (s:Stmt) (j:Nat):Stmt:=match s with
 | .ClassDef _ _ _ body _ _ _ _ _ _ _=>body.getD j (.Pass ⟨0,0,0,0⟩)
 | _=>.Pass ⟨0,0,0,0⟩
def defArgs (s:Stmt):Arguments:=match s with
 | .FunctionDef _ a _ _ _ _ _ _ _ _=>a
 | _=>{posonlyargs:=[],args:=[],vararg:=none,kwonlyargs:=[],kw_defaults:=[],kwarg:=none,defaults:=[]}
def defBody (s:Stmt):List Stmt:=match s with
 | .FunctionDef _ _ b _ _ _ _ _ _ _=>b
 | _=>[]
def defScope (s:Stmt):Scope:=match s with
 | .FunctionDef _ _ _ _ _ _ sc _ _ _=>sc
 | _=>{kind:=.function,names:=[],isGenerator:=false,isCoroutine:=false}
end L2
namespace Lk
open PySem PySem.W L2
noncomputable section
def top (i:Nat):Stmt:=PySem.Challenge.pw_leastasked_k04_refused.main.body.getD i (.Pass ⟨0,0,0,0⟩)
def en (P:Params) (k:String) (t:Nat) (v:Value):DictEntry:=⟨PyData.keyHash P (Str.ofString k),.str (Str.ofString k) t,v⟩
abbrev PO:=Params->Obj
noncomputable def cO (n q:Str) (t:Nat) (L a b c d:Int) (r:Addr) (g:Bool) (r2:Addr) (i:Nat) (u v x y:Value):Obj:={cls:=.type "code",data:=.fields #[.str n t,.str q (t+1),.str "/claim/cut.py" (t+2),.int L 0,.int a 0,.int b 0,.int c 0,.int d 0,.ref r,.bool g,.int 181 0,.ref r2,u,v,x,y,.int i 0,.int L 0,.str "/claim/cut.py" (i+1)]}
noncomputable def cR (n q:Str) (t:Nat) (L a b c d:Int) (r:Addr) (i:Nat):Obj:=cO n q t L a b c d r true (r+1) i .none (.ref (r+2)) (.ref (r+3)) (.ref (r+4))
noncomputable def fO (n q:Str) (s:Stmt) (d:Value) (m:Str) (t:Nat) (c:Addr):Obj:={cls:=.type "function",data:=.func {name:=n,qualname:=q,params:=defArgs s,body:=.stmts (defBody s),scope:=defScope s,globals:=3,closure:=[],defaults:=d,kwdefaults:=.none,pyModule:=.str m t,code:=.ref c}}
noncomputable def gO (n q:Str) (s:Stmt):Obj:={cls:=.none,data:=.func {name:=n,qualname:=q,params:=defArgs s,body:=.stmts (defBody s),scope:=defScope s,globals:=0,closure:=[],defaults:=.none,kwdefaults:=.none}}
noncomputable def tO (xs:Array Value):Obj:={cls:=.type "tuple",data:=.seq xs}
noncomputable def dO (es:Array DictEntry) (n:Nat):Obj:={cls:=.type "dict",data:=.dict es n}
abbrev PT:=Params->BT
noncomputable def Nn (o:PO) (l r:PT):PT:=fun P=>.node (o P) (l P) (r P)
noncomputable def Lf (o:PO):PT:=fun P=>.node (o P) .nil .nil
noncomputable def Ze:PT:=fun _=>.nil
def o_43:PO:=fun _=>tO #[]
def o_44:PO:=fun _=>{cls:=.none,data:=.fields #[]}
def o_45:PO:=fun _=>cO "<module>" "<module>" 182 1 0 0 0 0 11 false 12 185 .none .none .none .none
def o_46:PO:=fun _=>{cls:=.type "frame",slots:=#[some (.ref 13),some (.ref 3),some (.ref 3),none,some (.str "__main__" 164),none,some (.ref 0)]}
def o_79:PO:=fun P=>dO #[en P "__name__" 165 (.str "leastasked.errors" 187),en P "__doc__" 166 .none,en P "__package__" 167 .none,en P "__loader__" 168 (.builtin "__main__.__loader__#opaque"),en P "__spec__" 169 .none,en P "__annotations__" 170 (.ref 6),en P "__builtins__" 171 (.ref 4),en P "__file__" 173 (.str "/claim/cut.py" 172),en P "__cached__" 174 .none,en P "ShelfError" 206 (.ref 24),en P "NoName" 222 (.ref 37),en P "NoNumber" 238 (.ref 49)] 12
def o_51:PO:=fun _=>tO #[.type "ValueError"]
def o_59:PO:=fun P=>dO #[en P "__module__" 196 (.str "leastasked.errors" 187),en P "__firstlineno__" 200 (.int 2 199),en P "__static_attributes__" 201 (.ref 22),en P "__weakref__" 203 (.ref 25),en P "__doc__" 204 .none] 3
def o_78:PO:=fun _=>{cls:=.type "builtin_function_or_method",data:=.fields #[.builtin "object.__init_subclass__",.ref 37]}
def o_93:PO:=fun _=>{cls:=.type "builtin_function_or_method",data:=.fields #[.builtin "object.__init_subclass__",.ref 49]}
def o_63:PO:=fun _=>{cls:=.type "builtin_function_or_method",data:=.fields #[.builtin "object.__init_subclass__",.ref 24]}
def o_53:PO:=fun P=>dO #[en P "__module__" 196 (.str "leastasked.errors" 187),en P "__qualname__" 198 (.str "ShelfError" 197),en P "__firstlineno__" 200 (.int 2 199),en P "__static_attributes__" 201 (.ref 22)] 4
def o_72:PO:=fun _=>cO "NoName" "NoName" 209 4 0 0 0 0 31 false 32 212 .none .none .none .none
def o_91:PO:=fun _=>{cls:=.type "type",data:=.cls {name:="NoNumber",bases:=[.ref 24],mro:=[.ref 49,.ref 24,.type "ValueError",.type "Exception",.type "BaseException",.type "object"],ns:=48,qualname:="NoNumber"},slots:=#[some (.ref 40),none,some (.str "NoNumber" 223),some (.str "NoNumber" 231),some (.builtin "ValueError.__new__"),some (.bool true)]}
def o_61:PO:=fun _=>{cls:=.type "getset_descriptor",data:=.fields #[.str "__weakref__" 202,.ref 24,.builtin "ExceptionGroup.__weakref__",.none]}
def o_83:PO:=fun _=>{cls:=.type "builtin_function_or_method",data:=.fields #[.builtin "type.__prepare__",.type "type"]}
def o_57:PO:=fun _=>{cls:=.type "frame",slots:=#[some (.ref 20),some (.ref 3),some (.ref 17),none,some (.str "leastasked.errors" 187),none,some (.ref 0)]}
def o_76:PO:=fun _=>{cls:=.type "type",data:=.cls {name:="NoName",bases:=[.ref 24],mro:=[.ref 37,.ref 24,.type "ValueError",.type "Exception",.type "BaseException",.type "object"],ns:=36,qualname:="NoName"},slots:=#[some (.ref 28),none,some (.str "NoName" 207),some (.str "NoName" 215),some (.builtin "ValueError.__new__"),some (.bool true)]}
def o_87:PO:=fun _=>cO "NoNumber" "NoNumber" 225 6 0 0 0 0 43 false 44 228 .none .none .none .none
def o_90:PO:=fun P=>dO #[en P "__module__" 230 (.str "leastasked.errors" 187),en P "__firstlineno__" 234 (.int 6 233),en P "__static_attributes__" 235 (.ref 47),en P "__doc__" 236 .none] 2
def o_81:PO:=fun _=>{cls:=.type "type",data:=.cls {name:="ShelfError",bases:=[.type "ValueError"],mro:=[.ref 24,.type "ValueError",.type "Exception",.type "BaseException",.type "object"],ns:=23,qualname:="ShelfError",subclasses:=[.ref 37,.ref 49]},slots:=#[some (.ref 15),none,some (.str "ShelfError" 189),some (.str "ShelfError" 197),some (.builtin "ValueError.__new__"),some (.bool true)]}
def o_82:PO:=fun _=>tO #[.ref 24]
def o_80:PO:=fun _=>{cls:=.none,data:=.fields #[.int 2 0,.int 0 0,.ref 20,.int 4 0,.int 0 0,.ref 33,.int 6 0,.int 0 0,.ref 45]}
def o_56:PO:=fun _=>cO "ShelfError" "ShelfError" 191 2 0 0 0 0 18 false 19 194 .none .none .none .none
def o_75:PO:=fun P=>dO #[en P "__module__" 214 (.str "leastasked.errors" 187),en P "__firstlineno__" 218 (.int 4 217),en P "__static_attributes__" 219 (.ref 35),en P "__doc__" 220 .none] 2
def o_73:PO:=fun _=>{cls:=.type "frame",slots:=#[some (.ref 33),some (.ref 3),some (.ref 30),none,some (.str "leastasked.errors" 187),none,some (.ref 0)]}
def o_92:PO:=fun _=>{cls:=.type "super",data:=.fields #[.ref 49,.ref 49,.ref 49]}
def o_62:PO:=fun _=>{cls:=.type "super",data:=.fields #[.ref 24,.ref 24,.ref 24]}
def o_84:PO:=fun P=>dO #[en P "__module__" 230 (.str "leastasked.errors" 187),en P "__qualname__" 232 (.str "NoNumber" 231),en P "__firstlineno__" 234 (.int 6 233),en P "__static_attributes__" 235 (.ref 47)] 4
def o_77:PO:=fun _=>{cls:=.type "super",data:=.fields #[.ref 37,.ref 37,.ref 37]}
def o_69:PO:=fun P=>dO #[en P "__module__" 214 (.str "leastasked.errors" 187),en P "__qualname__" 216 (.str "NoName" 215),en P "__firstlineno__" 218 (.int 4 217),en P "__static_attributes__" 219 (.ref 35)] 4
def o_88:PO:=fun _=>{cls:=.type "frame",slots:=#[some (.ref 45),some (.ref 3),some (.ref 42),none,some (.str "leastasked.errors" 187),none,some (.ref 0)]}
def o_149:PO:=fun P=>dO #[en P "__name__" 165 (.str "leastasked.book" 337),en P "__doc__" 166 .none,en P "__package__" 167 .none,en P "__loader__" 168 (.builtin "__main__.__loader__#opaque"),en P "__spec__" 169 .none,en P "__annotations__" 170 (.ref 6),en P "__builtins__" 171 (.ref 4),en P "__file__" 173 (.str "/claim/cut.py" 172),en P "__cached__" 174 .none,en P "ShelfError" 206 (.ref 24),en P "NoName" 222 (.ref 37),en P "NoNumber" 238 (.ref 49),en P "NoRule" 254 (.ref 61),en P "is_whole_within" 265 (.ref 70),en P "is_name" 271 (.ref 75),en P "check_name" 278 (.ref 82),en P "check_weight" 285 (.ref 89),en P "check_steps" 292 (.ref 96),en P "check_places" 299 (.ref 103),en P "check_many" 306 (.ref 110),en P "check_rule" 314 (.ref 117),en P "ageings" 325 (.ref 124),en P "aged" 336 (.ref 131)] 23
def o_108:PO:=fun _=>{cls:=.type "builtin_function_or_method",data:=.fields #[.builtin "object.__init_subclass__",.ref 61]}
def o_174:PO:=fun _=>tO #[.str "count" 329,.str "part" 330,.str "times" 331,.str "needed" 332,.str "step" 333]
def o_140:PO:=fun _=>cR "check_steps" "check_steps" 286 25 1 0 0 3 90 290
def o_148:PO:=fun _=>fO "check_places" "check_places" (top 11) .none "leastasked.checks" 255 102
def o_132:PO:=fun _=>gO "check_weight" "check_weight" (top 9)
def o_178:PO:=fun _=>fO "aged" "aged" (top 16) .none "leastasked.rules" 315 130
def o_144:PO:=fun _=>tO #[.str "places" 296]
def o_162:PO:=fun _=>gO "check_rule" "check_rule" (top 13)
def o_120:PO:=fun _=>fO "is_name" "is_name" (top 7) .none "leastasked.checks" 255 74
def o_170:PO:=fun _=>cR "ageings" "ageings" 317 40 3 0 0 3 118 323
def o_176:PO:=fun _=>gO "aged" "aged" (top 16)
def o_126:PO:=fun _=>cR "check_name" "check_name" 272 19 1 0 0 3 76 276
def o_160:PO:=fun _=>tO #[.str "span" 310,.str "part" 311]
def o_118:PO:=fun _=>gO "is_name" "is_name" (top 7)
def o_102:PO:=fun _=>cO "NoRule" "NoRule" 241 8 0 0 0 0 55 false 56 244 .none .none .none .none
def o_134:PO:=fun _=>fO "check_weight" "check_weight" (top 9) .none "leastasked.checks" 255 88
def o_114:PO:=fun _=>cR "is_whole_within" "is_whole_within" 257 11 3 0 0 3 64 263
def o_146:PO:=fun _=>gO "check_places" "check_places" (top 11)
def o_130:PO:=fun _=>tO #[.str "weight" 282]
def o_164:PO:=fun _=>fO "check_rule" "check_rule" (top 13) .none "leastasked.checks" 255 116
def o_156:PO:=fun _=>cR "check_many" "check_many" 300 31 1 0 0 3 104 304
def o_106:PO:=fun _=>{cls:=.type "type",data:=.cls {name:="NoRule",bases:=[.ref 24],mro:=[.ref 61,.ref 24,.type "ValueError",.type "Exception",.type "BaseException",.type "object"],ns:=60,qualname:="NoRule"},slots:=#[some (.ref 52),none,some (.str "NoRule" 239),some (.str "NoRule" 247),some (.builtin "ValueError.__new__"),some (.bool true)]}
def o_141:PO:=fun _=>fO "check_steps" "check_steps" (top 10) .none "leastasked.checks" 255 95
def o_125:PO:=fun _=>gO "check_name" "check_name" (top 8)
def o_96:PO:=fun _=>{cls:=.type "type",data:=.cls {name:="ShelfError",bases:=[.type "ValueError"],mro:=[.ref 24,.type "ValueError",.type "Exception",.type "BaseException",.type "object"],ns:=23,qualname:="ShelfError",subclasses:=[.ref 37,.ref 49,.ref 61]},slots:=#[some (.ref 15),none,some (.str "ShelfError" 189),some (.str "ShelfError" 197),some (.builtin "ValueError.__new__"),some (.bool true)]}
def o_133:PO:=fun _=>cR "check_weight" "check_weight" 279 22 1 0 0 3 83 283
def o_167:PO:=fun _=>tO #[.str "span" 320,.str "since" 321,.str "upto" 322]
def o_150:PO:=fun _=>{cls:=.none,data:=.fields #[.int 2 0,.int 0 0,.ref 20,.int 4 0,.int 0 0,.ref 33,.int 6 0,.int 0 0,.ref 45,.int 8 0,.int 0 0,.ref 57,.int 11 0,.int 0 0,.ref 69,.int 15 0,.int 0 0,.ref 74,.int 19 0,.int 0 0,.ref 81,.int 22 0,.int 0 0,.ref 88,.int 25 0,.int 0 0,.ref 95,.int 28 0,.int 0 0,.ref 102,.int 31 0,.int 0 0,.ref 109,.int 34 0,.int 0 0,.ref 116,.int 40 0,.int 0 0,.ref 123,.int 42 0,.int 0 0,.ref 130]}
def o_113:PO:=fun _=>gO "is_whole_within" "is_whole_within" (top 6)
def o_163:PO:=fun _=>cR "check_rule" "check_rule" 307 34 2 0 0 3 111 312
def o_155:PO:=fun _=>gO "check_many" "check_many" (top 12)
def o_105:PO:=fun P=>dO #[en P "__module__" 246 (.str "leastasked.errors" 187),en P "__firstlineno__" 250 (.int 8 249),en P "__static_attributes__" 251 (.ref 59),en P "__doc__" 252 .none] 2
def o_137:PO:=fun _=>tO #[.str "steps" 289]
def o_171:PO:=fun _=>fO "ageings" "ageings" (top 15) .none "leastasked.rules" 315 123
def o_111:PO:=fun _=>tO #[.str "value" 260,.str "least" 261,.str "most" 262]
def o_177:PO:=fun _=>cR "aged" "aged" 326 42 3 0 0 3 125 334
def o_127:PO:=fun _=>fO "check_name" "check_name" (top 8) .none "leastasked.checks" 255 81
def o_119:PO:=fun _=>cO "is_name" "is_name" 266 15 1 0 0 3 71 true 72 269 .none .none .none (.ref 73)
def o_153:PO:=fun _=>tO #[.str "many" 303]
def o_103:PO:=fun _=>{cls:=.type "frame",slots:=#[some (.ref 57),some (.ref 3),some (.ref 54),none,some (.str "leastasked.errors" 187),none,some (.ref 0)]}
def o_169:PO:=fun _=>gO "ageings" "ageings" (top 15)
def o_115:PO:=fun _=>fO "is_whole_within" "is_whole_within" (top 6) .none "leastasked.checks" 255 69
def o_147:PO:=fun _=>cR "check_places" "check_places" 293 28 1 0 0 3 97 297
def o_99:PO:=fun P=>dO #[en P "__module__" 246 (.str "leastasked.errors" 187),en P "__qualname__" 248 (.str "NoRule" 247),en P "__firstlineno__" 250 (.int 8 249),en P "__static_attributes__" 251 (.ref 59)] 4
def o_123:PO:=fun _=>tO #[.str "name" 275]
def o_157:PO:=fun _=>fO "check_many" "check_many" (top 12) .none "leastasked.checks" 255 109
def o_107:PO:=fun _=>{cls:=.type "super",data:=.fields #[.ref 61,.ref 61,.ref 61]}
def o_139:PO:=fun _=>gO "check_steps" "check_steps" (top 10)
def o_404:PO:=fun P=>dO #[en P "__name__" 165 (.str "leastasked.row" 510),en P "__doc__" 166 .none,en P "__package__" 167 .none,en P "__loader__" 168 (.builtin "__main__.__loader__#opaque"),en P "__spec__" 169 .none,en P "__annotations__" 170 (.ref 6),en P "__builtins__" 171 (.ref 4),en P "__file__" 173 (.str "/claim/cut.py" 172),en P "__cached__" 174 .none,en P "ShelfError" 206 (.ref 24),en P "NoName" 222 (.ref 37),en P "NoNumber" 238 (.ref 49),en P "NoRule" 254 (.ref 61),en P "is_whole_within" 265 (.ref 70),en P "is_name" 271 (.ref 75),en P "check_name" 278 (.ref 82),en P "check_weight" 285 (.ref 89),en P "check_steps" 292 (.ref 96),en P "check_places" 299 (.ref 103),en P "check_many" 306 (.ref 110),en P "check_rule" 314 (.ref 117),en P "ageings" 325 (.ref 124),en P "aged" 336 (.ref 131),en P "Book" 509 (.ref 261)] 24
def o_240:PO:=fun _=>tO #[.str "self" 412,.str "name" 413]
def o_208:PO:=fun _=>cR "rest" "Book.rest" 371 65 2 0 0 3 154 376
def o_272:PO:=fun _=>fO "begin_ask" "Book.begin_ask" (inClass (top 18) 11) .none "leastasked.book" 337 222
def o_192:PO:=fun _=>gO "__init__" "Book.__init__" (inClass (top 18) 0)
def o_256:PO:=fun _=>gO "in_order" "Book.in_order" (inClass (top 18) 9)
def o_312:PO:=fun _=>{cls:=.type "getset_descriptor",data:=.fields #[.str "__weakref__" 505,.ref 261,.builtin "ExceptionGroup.__weakref__",.none]}
def o_216:PO:=fun _=>fO "drop" "Book.drop" (inClass (top 18) 3) .none "leastasked.book" 337 166
def o_200:PO:=fun _=>gO "ask" "Book.ask" (inClass (top 18) 1)
def o_264:PO:=fun _=>cR "strength" "Book.strength" 432 94 2 0 0 3 210 437
def o_296:PO:=fun _=>tO #[.str "self" 478,.str "times" 479,.str "faded" 480,.str "name" 481,.str "count" 482,.str "last" 483]
def o_308:PO:=fun _=>tO #[.str "counts" 496,.str "deeds" 497,.str "lasts" 498,.str "part" 499,.str "span" 500,.str "time" 501]
def o_244:PO:=fun _=>fO "last_of" "Book.last_of" (inClass (top 18) 7) .none "leastasked.book" 337 194
def o_212:PO:=fun _=>tO #[.str "self" 382,.str "name" 383]
def o_228:PO:=fun _=>gO "deeds_done" "Book.deeds_done" (inClass (top 18) 5)
def o_292:PO:=fun _=>cR "pass_time" "Book.pass_time" 466 111 2 0 0 3 238 472
def o_284:PO:=fun _=>gO "begin_drop" "Book.begin_drop" (inClass (top 18) 13)
def o_268:PO:=fun _=>tO #[.str "self" 443,.str "name" 444,.str "weight" 445]
def o_236:PO:=fun _=>cR "count_of" "Book.count_of" 401 80 2 0 0 3 182 406
def o_300:PO:=fun _=>fO "age_counts" "Book.age_counts" (inClass (top 18) 15) .none "leastasked.book" 337 250
def o_306:PO:=fun _=>cR "fade" "Book.fade" 487 131 3 0 0 3 252 493
def o_242:PO:=fun _=>gO "last_of" "Book.last_of" (inClass (top 18) 7)
def o_194:PO:=fun _=>fO "__init__" "Book.__init__" (inClass (top 18) 0) .none "leastasked.book" 337 144
def o_258:PO:=fun _=>fO "in_order" "Book.in_order" (inClass (top 18) 9) .none "leastasked.book" 337 208
def o_226:PO:=fun _=>tO #[.str "self" 397]
def o_186:PO:=fun _=>cO "Book" "Book" 341 48 0 0 0 0 135 false 136 344 .none .none .none .none
def o_314:PO:=fun _=>{cls:=.type "builtin_function_or_method",data:=.fields #[.builtin "object.__init_subclass__",.ref 261]}
def o_250:PO:=fun _=>cR "names" "Book.names" 417 88 1 0 0 3 196 421
def o_282:PO:=fun _=>tO #[.str "self" 461,.str "name" 462]
def o_202:PO:=fun _=>fO "ask" "Book.ask" (inClass (top 18) 1) (.ref 146) "leastasked.book" 337 152
def o_298:PO:=fun _=>gO "age_counts" "Book.age_counts" (inClass (top 18) 15)
def o_310:PO:=fun _=>{cls:=.type "type",data:=.cls {name:="Book",bases:=[.type "object"],mro:=[.ref 261,.type "object"],ns:=260,qualname:="Book"},slots:=#[none,none,some (.str "Book" 339),some (.str "Book" 347),some (.builtin "object.__new__"),some (.bool true)]}
def o_214:PO:=fun _=>gO "drop" "Book.drop" (inClass (top 18) 3)
def o_278:PO:=fun _=>cR "grow" "Book.grow" 449 103 3 0 0 3 224 455
def o_198:PO:=fun _=>tO #[.str "self" 364,.str "name" 365,.str "weight" 366,.str "known" 367]
def o_230:PO:=fun _=>fO "deeds_done" "Book.deeds_done" (inClass (top 18) 5) .none "leastasked.book" 337 180
def o_190:PO:=fun _=>tO #[.str "self" 354,.str "span" 355,.str "part" 356]
def o_254:PO:=fun _=>tO #[.str "self" 427,.str "names" 428]
def o_222:PO:=fun _=>cR "time_now" "Book.time_now" 387 74 1 0 0 3 168 391
def o_286:PO:=fun _=>fO "begin_drop" "Book.begin_drop" (inClass (top 18) 13) .none "leastasked.book" 337 236
def o_270:PO:=fun _=>gO "begin_ask" "Book.begin_ask" (inClass (top 18) 11)
def o_305:PO:=fun _=>gO "fade" "Book.fade" (inClass (top 18) 16)
def o_209:PO:=fun _=>fO "rest" "Book.rest" (inClass (top 18) 2) .none "leastasked.book" 337 159
def o_193:PO:=fun _=>cR "__init__" "Book.__init__" 351 50 3 0 0 3 139 357
def o_257:PO:=fun _=>cR "in_order" "Book.in_order" 424 91 2 0 0 3 203 429
def o_289:PO:=fun _=>tO #[.str "self" 469,.str "steps" 470,.str "times" 471]
def o_185:PO:=fun _=>{cls:=.none,data:=.fields #[.int 50 0,.int 4 0,.ref 144,.int 59 0,.int 4 0,.ref 152,.int 65 0,.int 4 0,.ref 159,.int 70 0,.int 4 0,.ref 166,.int 74 0,.int 4 0,.ref 173,.int 77 0,.int 4 0,.ref 180,.int 80 0,.int 4 0,.ref 187,.int 84 0,.int 4 0,.ref 194,.int 88 0,.int 4 0,.ref 201,.int 91 0,.int 4 0,.ref 208,.int 94 0,.int 4 0,.ref 215,.int 97 0,.int 4 0,.ref 222,.int 103 0,.int 4 0,.ref 229,.int 107 0,.int 4 0,.ref 236,.int 111 0,.int 4 0,.ref 243,.int 118 0,.int 4 0,.ref 250,.int 131 0,.int 4 0,.ref 257]}
def o_313:PO:=fun _=>{cls:=.type "super",data:=.fields #[.ref 261,.ref 261,.ref 261]}
def o_249:PO:=fun _=>gO "names" "Book.names" (inClass (top 18) 8)
def o_201:PO:=fun _=>cR "ask" "Book.ask" 361 59 3 0 0 3 147 368
def o_265:PO:=fun _=>fO "strength" "Book.strength" (inClass (top 18) 10) .none "leastasked.book" 337 215
def o_233:PO:=fun _=>tO #[.str "self" 404,.str "name" 405]
def o_180:PO:=fun _=>{cls:=.none,data:=.fields #[.int 2 0,.int 0 0,.ref 20,.int 4 0,.int 0 0,.ref 33,.int 6 0,.int 0 0,.ref 45,.int 8 0,.int 0 0,.ref 57,.int 11 0,.int 0 0,.ref 69,.int 15 0,.int 0 0,.ref 74,.int 19 0,.int 0 0,.ref 81,.int 22 0,.int 0 0,.ref 88,.int 25 0,.int 0 0,.ref 95,.int 28 0,.int 0 0,.ref 102,.int 31 0,.int 0 0,.ref 109,.int 34 0,.int 0 0,.ref 116,.int 40 0,.int 0 0,.ref 123,.int 42 0,.int 0 0,.ref 130,.int 48 0,.int 0 0,.ref 137]}
def o_309:PO:=fun P=>dO #[en P "__module__" 346 (.str "leastasked.book" 337),en P "__firstlineno__" 350 (.int 48 349),en P "__init__" 359 (.ref 145),en P "ask" 370 (.ref 153),en P "rest" 378 (.ref 160),en P "drop" 386 (.ref 167),en P "time_now" 393 (.ref 174),en P "deeds_done" 400 (.ref 181),en P "count_of" 408 (.ref 188),en P "last_of" 416 (.ref 195),en P "names" 423 (.ref 202),en P "in_order" 431 (.ref 209),en P "strength" 439 (.ref 216),en P "begin_ask" 448 (.ref 223),en P "grow" 457 (.ref 230),en P "begin_drop" 465 (.ref 237),en P "pass_time" 474 (.ref 244),en P "age_counts" 486 (.ref 251),en P "fade" 495 (.ref 258),en P "__static_attributes__" 502 (.ref 259),en P "__dict__" 504 (.ref 262),en P "__weakref__" 506 (.ref 263),en P "__doc__" 507 .none] 4
def o_277:PO:=fun _=>gO "grow" "Book.grow" (inClass (top 18) 12)
def o_261:PO:=fun _=>tO #[.str "self" 435,.str "name" 436]
def o_229:PO:=fun _=>cR "deeds_done" "Book.deeds_done" 394 77 1 0 0 3 175 398
def o_293:PO:=fun _=>fO "pass_time" "Book.pass_time" (inClass (top 18) 14) .none "leastasked.book" 337 243
def o_221:PO:=fun _=>gO "time_now" "Book.time_now" (inClass (top 18) 4)
def o_285:PO:=fun _=>cR "begin_drop" "Book.begin_drop" 458 107 2 0 0 3 231 463
def o_205:PO:=fun _=>tO #[.str "self" 374,.str "steps" 375]
def o_237:PO:=fun _=>fO "count_of" "Book.count_of" (inClass (top 18) 6) .none "leastasked.book" 337 187
def o_307:PO:=fun _=>fO "fade" "Book.fade" (inClass (top 18) 16) .none "leastasked.book" 337 257
def o_243:PO:=fun _=>cR "last_of" "Book.last_of" 409 84 2 0 0 3 189 414
def o_275:PO:=fun _=>tO #[.str "self" 452,.str "name" 453,.str "weight" 454]
def o_195:PO:=fun _=>tO #[.int 1 360]
def o_291:PO:=fun _=>gO "pass_time" "Book.pass_time" (inClass (top 18) 14)
def o_187:PO:=fun _=>{cls:=.type "frame",slots:=#[some (.ref 137),some (.ref 3),some (.ref 134),none,some (.str "leastasked.book" 337),none,some (.ref 0)]}
def o_251:PO:=fun _=>fO "names" "Book.names" (inClass (top 18) 8) .none "leastasked.book" 337 201
def o_219:PO:=fun _=>tO #[.str "self" 390]
def o_235:PO:=fun _=>gO "count_of" "Book.count_of" (inClass (top 18) 6)
def o_299:PO:=fun _=>cR "age_counts" "Book.age_counts" 475 118 2 0 0 3 245 484
def o_183:PO:=fun P=>dO #[en P "__module__" 346 (.str "leastasked.book" 337),en P "__qualname__" 348 (.str "Book" 347),en P "__firstlineno__" 350 (.int 48 349),en P "__init__" 359 (.ref 145),en P "ask" 370 (.ref 153),en P "rest" 378 (.ref 160),en P "drop" 386 (.ref 167),en P "time_now" 393 (.ref 174),en P "deeds_done" 400 (.ref 181),en P "count_of" 408 (.ref 188),en P "last_of" 416 (.ref 195),en P "names" 423 (.ref 202),en P "in_order" 431 (.ref 209),en P "strength" 439 (.ref 216),en P "begin_ask" 448 (.ref 223),en P "grow" 457 (.ref 230),en P "begin_drop" 465 (.ref 237),en P "pass_time" 474 (.ref 244),en P "age_counts" 486 (.ref 251),en P "fade" 495 (.ref 258),en P "__static_attributes__" 502 (.ref 259)] 21
def o_311:PO:=fun _=>{cls:=.type "getset_descriptor",data:=.fields #[.str "__dict__" 503,.ref 261,.builtin "function.__dict__",.builtin "function.__dict__#set"]}
def o_247:PO:=fun _=>tO #[.str "self" 420]
def o_215:PO:=fun _=>cR "drop" "Book.drop" 379 70 2 0 0 3 161 384
def o_279:PO:=fun _=>fO "grow" "Book.grow" (inClass (top 18) 12) .none "leastasked.book" 337 229
def o_263:PO:=fun _=>gO "strength" "Book.strength" (inClass (top 18) 10)
def o_223:PO:=fun _=>fO "time_now" "Book.time_now" (inClass (top 18) 4) .none "leastasked.book" 337 173
def o_207:PO:=fun _=>gO "rest" "Book.rest" (inClass (top 18) 2)
def o_271:PO:=fun _=>cR "begin_ask" "Book.begin_ask" 440 97 3 0 0 3 217 446
def o_303:PO:=fun _=>tO #[.str "self" 490,.str "name" 491,.str "last" 492]
def o_594:PO:=fun P=>dO #[en P "__name__" 165 (.str "leastasked.shelf" 640),en P "__doc__" 166 .none,en P "__package__" 167 .none,en P "__loader__" 168 (.builtin "__main__.__loader__#opaque"),en P "__spec__" 169 .none,en P "__annotations__" 170 (.ref 6),en P "__builtins__" 171 (.ref 4),en P "__file__" 173 (.str "/claim/cut.py" 172),en P "__cached__" 174 .none,en P "ShelfError" 206 (.ref 24),en P "NoName" 222 (.ref 37),en P "NoNumber" 238 (.ref 49),en P "NoRule" 254 (.ref 61),en P "is_whole_within" 265 (.ref 70),en P "is_name" 271 (.ref 75),en P "check_name" 278 (.ref 82),en P "check_weight" 285 (.ref 89),en P "check_steps" 292 (.ref 96),en P "check_places" 299 (.ref 103),en P "check_many" 306 (.ref 110),en P "check_rule" 314 (.ref 117),en P "ageings" 325 (.ref 124),en P "aged" 336 (.ref 131),en P "Book" 509 (.ref 261),en P "Row" 639 (.ref 363)] 25
def o_462:PO:=fun _=>cO "met_by" "Row.met_by" 575 169 2 0 0 3 316 true 317 578 .none .none .none (.ref 318)
def o_430:PO:=fun _=>fO "ask" "Row.ask" (inClass (top 20) 1) (.ref 280) "leastasked.row" 510 286
def o_494:PO:=fun _=>gO "bring_in" "Row.bring_in" (inClass (top 20) 11)
def o_414:PO:=fun _=>cO "Row" "Row" 514 134 0 0 0 0 269 false 270 517 .none .none .none .none
def o_478:PO:=fun _=>tO #[.str "self" 600,.str "name" 601]
def o_470:PO:=fun _=>fO "enough" "Row.enough" (inClass (top 20) 7) .none "leastasked.row" 510 326
def o_502:PO:=fun _=>cR "fade" "Row.fade" 624 211 3 0 0 3 354 631
def o_422:PO:=fun _=>fO "__init__" "Row.__init__" (inClass (top 20) 0) .none "leastasked.row" 510 278
def o_454:PO:=fun _=>tO #[.str "self" 570,.str "places" 571]
def o_466:PO:=fun _=>tO #[.str "self" 584,.str "many" 585,.str "met" 586,.str "spot" 587]
def o_418:PO:=fun _=>tO #[.str "self" 527,.str "span" 528,.str "part" 529]
def o_482:PO:=fun _=>fO "spot_of" "Row.spot_of" (inClass (top 20) 9) .none "leastasked.row" 510 338
def o_450:PO:=fun _=>cR "spots" "Row.spots" 560 162 1 0 0 3 302 564
def o_474:PO:=fun _=>cO "names_on" "Row.names_on" 591 184 2 0 0 3 328 true 329 594 .none .none .none (.ref 330)
def o_442:PO:=fun _=>gO "names" "Row.names" (inClass (top 20) 3)
def o_506:PO:=fun _=>{cls:=.type "type",data:=.cls {name:="Row",bases:=[.ref 261],mro:=[.ref 363,.ref 261,.type "object"],ns:=362,qualname:="Row"},slots:=#[some (.ref 266),none,some (.str "Row" 512),some (.str "Row" 520),some (.builtin "object.__new__"),some (.bool true)]}
def o_426:PO:=fun _=>tO #[.str "self" 537,.str "name" 538,.str "weight" 539,.str "spot" 540]
def o_458:PO:=fun _=>fO "names_at" "Row.names_at" (inClass (top 20) 5) .none "leastasked.row" 510 314
def o_496:PO:=fun _=>fO "bring_in" "Row.bring_in" (inClass (top 20) 11) .none "leastasked.row" 510 352
def o_480:PO:=fun _=>gO "spot_of" "Row.spot_of" (inClass (top 20) 9)
def o_440:PO:=fun _=>tO #[.str "self" 556]
def o_504:PO:=fun _=>tO #[.str "line" 634,.str "met_at" 635]
def o_488:PO:=fun _=>cR "leave" "Row.leave" 605 192 2 0 0 3 340 610
def o_456:PO:=fun _=>gO "names_at" "Row.names_at" (inClass (top 20) 5)
def o_408:PO:=fun _=>{cls:=.type "type",data:=.cls {name:="Book",bases:=[.type "object"],mro:=[.ref 261,.type "object"],ns:=260,qualname:="Book",subclasses:=[.ref 363]},slots:=#[none,none,some (.str "Book" 339),some (.str "Book" 347),some (.builtin "object.__new__"),some (.bool true)]}
def o_468:PO:=fun _=>gO "enough" "Row.enough" (inClass (top 20) 7)
def o_436:PO:=fun _=>cR "drop" "Row.drop" 544 151 2 0 0 3 288 550
def o_420:PO:=fun _=>gO "__init__" "Row.__init__" (inClass (top 20) 0)
def o_444:PO:=fun _=>fO "names" "Row.names" (inClass (top 20) 3) .none "leastasked.row" 510 300
def o_508:PO:=fun _=>{cls:=.type "builtin_function_or_method",data:=.fields #[.builtin "object.__init_subclass__",.ref 363]}
def o_428:PO:=fun _=>gO "ask" "Row.ask" (inClass (top 20) 1)
def o_492:PO:=fun _=>tO #[.str "self" 616,.str "name" 617,.str "coming" 618,.str "at" 619,.str "there" 620]
def o_463:PO:=fun _=>fO "met_by" "Row.met_by" (inClass (top 20) 6) .none "leastasked.row" 510 319
def o_495:PO:=fun _=>cR "bring_in" "Row.bring_in" 613 197 2 0 0 3 347 621
def o_415:PO:=fun _=>{cls:=.type "frame",slots:=#[some (.ref 271),some (.ref 3),some (.ref 268),none,some (.str "leastasked.row" 510),none,some (.ref 0)]}
def o_447:PO:=fun _=>tO #[.str "self" 563]
def o_503:PO:=fun _=>fO "fade" "Row.fade" (inClass (top 20) 12) .none "leastasked.row" 510 359
def o_423:PO:=fun _=>tO #[.int 1 533]
def o_487:PO:=fun _=>gO "leave" "Row.leave" (inClass (top 20) 10)
def o_407:PO:=fun _=>{cls:=.none,data:=.fields #[.int 2 0,.int 0 0,.ref 20,.int 4 0,.int 0 0,.ref 33,.int 6 0,.int 0 0,.ref 45,.int 8 0,.int 0 0,.ref 57,.int 11 0,.int 0 0,.ref 69,.int 15 0,.int 0 0,.ref 74,.int 19 0,.int 0 0,.ref 81,.int 22 0,.int 0 0,.ref 88,.int 25 0,.int 0 0,.ref 95,.int 28 0,.int 0 0,.ref 102,.int 31 0,.int 0 0,.ref 109,.int 34 0,.int 0 0,.ref 116,.int 40 0,.int 0 0,.ref 123,.int 42 0,.int 0 0,.ref 130,.int 48 0,.int 0 0,.ref 137,.int 134 0,.int 0 0,.ref 271]}
def o_435:PO:=fun _=>gO "drop" "Row.drop" (inClass (top 20) 2)
def o_499:PO:=fun _=>tO #[.str "self" 627,.str "name" 628,.str "last" 629,.str "spot" 630]
def o_451:PO:=fun _=>fO "spots" "Row.spots" (inClass (top 20) 4) .none "leastasked.row" 510 307
def o_411:PO:=fun P=>dO #[en P "__module__" 519 (.str "leastasked.row" 510),en P "__qualname__" 521 (.str "Row" 520),en P "__firstlineno__" 523 (.int 134 522),en P "__init__" 532 (.ref 279),en P "ask" 543 (.ref 287),en P "drop" 552 (.ref 294),en P "names" 559 (.ref 301),en P "spots" 566 (.ref 308),en P "names_at" 574 (.ref 315),en P "met_by" 580 (.ref 320),en P "enough" 590 (.ref 327),en P "names_on" 596 (.ref 332),en P "spot_of" 604 (.ref 339),en P "leave" 612 (.ref 346),en P "bring_in" 623 (.ref 353),en P "fade" 633 (.ref 360),en P "__static_attributes__" 636 (.ref 361)] 17
def o_475:PO:=fun _=>fO "names_on" "Row.names_on" (inClass (top 20) 8) .none "leastasked.row" 510 331
def o_443:PO:=fun _=>cR "names" "Row.names" 553 159 1 0 0 3 295 557
def o_507:PO:=fun _=>{cls:=.type "super",data:=.fields #[.ref 363,.ref 363,.ref 363]}
def o_433:PO:=fun _=>tO #[.str "self" 547,.str "name" 548,.str "spot" 549]
def o_481:PO:=fun _=>cR "spot_of" "Row.spot_of" 597 187 2 0 0 3 333 602
def o_449:PO:=fun _=>gO "spots" "Row.spots" (inClass (top 20) 4)
def o_409:PO:=fun _=>tO #[.ref 261]
def o_473:PO:=fun _=>gO "names_on" "Row.names_on" (inClass (top 20) 8)
def o_505:PO:=fun P=>dO #[en P "__module__" 519 (.str "leastasked.row" 510),en P "__firstlineno__" 523 (.int 134 522),en P "__init__" 532 (.ref 279),en P "ask" 543 (.ref 287),en P "drop" 552 (.ref 294),en P "names" 559 (.ref 301),en P "spots" 566 (.ref 308),en P "names_at" 574 (.ref 315),en P "met_by" 580 (.ref 320),en P "enough" 590 (.ref 327),en P "names_on" 596 (.ref 332),en P "spot_of" 604 (.ref 339),en P "leave" 612 (.ref 346),en P "bring_in" 623 (.ref 353),en P "fade" 633 (.ref 360),en P "__static_attributes__" 636 (.ref 361),en P "__doc__" 637 .none] 2
def o_489:PO:=fun _=>fO "leave" "Row.leave" (inClass (top 20) 10) .none "leastasked.row" 510 345
def o_457:PO:=fun _=>cR "names_at" "Row.names_at" 567 165 2 0 0 3 309 572
def o_469:PO:=fun _=>cR "enough" "Row.enough" 581 173 2 0 0 3 321 588
def o_437:PO:=fun _=>fO "drop" "Row.drop" (inClass (top 20) 2) .none "leastasked.row" 510 293
def o_501:PO:=fun _=>gO "fade" "Row.fade" (inClass (top 20) 12)
def o_421:PO:=fun _=>cR "__init__" "Row.__init__" 524 136 3 0 0 3 273 530
def o_485:PO:=fun _=>tO #[.str "self" 608,.str "spot" 609]
def o_413:PO:=fun _=>{cls:=.none,data:=.fields #[.int 136 0,.int 4 0,.ref 278,.int 141 0,.int 4 0,.ref 286,.int 151 0,.int 4 0,.ref 293,.int 159 0,.int 4 0,.ref 300,.int 162 0,.int 4 0,.ref 307,.int 165 0,.int 4 0,.ref 314,.int 169 0,.int 4 0,.ref 319,.int 173 0,.int 4 0,.ref 326,.int 184 0,.int 4 0,.ref 331,.int 187 0,.int 4 0,.ref 338,.int 192 0,.int 4 0,.ref 345,.int 197 0,.int 4 0,.ref 352,.int 211 0,.int 4 0,.ref 359]}
def o_429:PO:=fun _=>cR "ask" "Row.ask" 534 141 3 0 0 3 281 541
def o_461:PO:=fun _=>gO "met_by" "Row.met_by" (inClass (top 20) 6)
def o_675:PO:=fun P=>dO #[en P "__name__" 165 (.str "law_leastasked_k04_refused" 742),en P "__doc__" 166 .none,en P "__package__" 167 .none,en P "__loader__" 168 (.builtin "__main__.__loader__#opaque"),en P "__spec__" 169 .none,en P "__annotations__" 170 (.ref 6),en P "__builtins__" 171 (.ref 4),en P "__file__" 173 (.str "/claim/cut.py" 172),en P "__cached__" 174 .none,en P "ShelfError" 206 (.ref 24),en P "NoName" 222 (.ref 37),en P "NoNumber" 238 (.ref 49),en P "NoRule" 254 (.ref 61),en P "is_whole_within" 265 (.ref 70),en P "is_name" 271 (.ref 75),en P "check_name" 278 (.ref 82),en P "check_weight" 285 (.ref 89),en P "check_steps" 292 (.ref 96),en P "check_places" 299 (.ref 103),en P "check_many" 306 (.ref 110),en P "check_rule" 314 (.ref 117),en P "ageings" 325 (.ref 124),en P "aged" 336 (.ref 131),en P "Book" 509 (.ref 261),en P "Row" 639 (.ref 363),en P "Shelf" 741 (.ref 439),en P "_law_cell_at" 751 (.ref 448),en P "_law_sign" 759 (.ref 455),en P "_law_names" 765 (.ref 460),en P "_law_span" 772 (.ref 467),en P "_law_part" 779 (.ref 474),en P "_law_deed" 792 (.ref 481),en P "_law_do" 800 (.ref 488),en P "_law_bad_name" 809 (.ref 495),en P "_law_bad_number" 820 (.ref 502),en P "_law_thing_call" 831 (.ref 509),en P "_law_own_call" 842 (.ref 516),en P "_law_new_call" 852 (.ref 523)] 38
def o_616:PO:=fun _=>tO #[.str "self" 668,.str "name" 669,.str "weight" 670,.str "met" 671]
def o_682:PO:=fun _=>cR "_law_cell_at" "_law_cell_at" 744 264 2 0 0 3 442 749
def o_648:PO:=fun _=>fO "goings" "Shelf.goings" (inClass (top 22) 5) .none "leastasked.shelf" 640 414
def o_714:PO:=fun _=>gO "_law_deed" "_law_deed" (top 29)
def o_632:PO:=fun _=>gO "names" "Shelf.names" (inClass (top 22) 3)
def o_698:PO:=fun _=>tO #[.str "_law_cell" 769]
def o_730:PO:=fun _=>fO "_law_bad_name" "_law_bad_name" (top 31) .none "law_leastasked_k04_refused" 742 494
def o_754:PO:=fun _=>tO #[.str "_law_which" 846,.str "_law_cell" 847,.str "_law_bad" 848,.str "_law_also" 849]
def o_690:PO:=fun _=>fO "_law_sign" "_law_sign" (top 25) .none "law_leastasked_k04_refused" 742 454
def o_722:PO:=fun _=>cR "_law_do" "_law_do" 793 302 2 0 0 3 482 798
def o_640:PO:=fun _=>cR "has" "Shelf.has" 691 243 2 0 0 3 402 696
def o_672:PO:=fun _=>{cls:=.type "type",data:=.cls {name:="Shelf",bases:=[.ref 261],mro:=[.ref 439,.ref 261,.type "object"],ns:=438,qualname:="Shelf"},slots:=#[some (.ref 366),none,some (.str "Shelf" 642),some (.str "Shelf" 650),some (.builtin "object.__new__"),some (.bool true)]}
def o_608:PO:=fun _=>tO #[.str "self" 657,.str "places" 658,.str "span" 659,.str "part" 660]
def o_750:PO:=fun _=>cR "_law_own_call" "_law_own_call" 832 334 5 0 0 3 510 840
def o_620:PO:=fun _=>fO "ask" "Shelf.ask" (inClass (top 22) 1) (.ref 380) "leastasked.shelf" 640 386
def o_686:PO:=fun _=>tO #[.str "_law_number" 755,.str "_law_some" 756]
def o_702:PO:=fun _=>fO "_law_span" "_law_span" (top 27) .none "law_leastasked_k04_refused" 742 466
def o_668:PO:=fun _=>cR "fade" "Shelf.fade" 726 260 3 0 0 3 430 732
def o_604:PO:=fun _=>cO "Shelf" "Shelf" 644 216 0 0 0 0 369 false 370 647 .none .none .none .none
def o_758:PO:=fun _=>fO "_law_new_call" "_law_new_call" (top 35) .none "law_leastasked_k04_refused" 742 522
def o_694:PO:=fun _=>cO "_law_names" "_law_names" 760 272 2 0 0 3 456 true 457 763 .none .none .none (.ref 458)
def o_660:PO:=fun _=>gO "take_off" "Shelf.take_off" (inClass (top 22) 7)
def o_726:PO:=fun _=>tO #[.str "_law_cell" 804,.str "_law_good" 805,.str "_law_some" 806]
def o_644:PO:=fun _=>tO #[.str "self" 702]
def o_612:PO:=fun _=>fO "__init__" "Shelf.__init__" (inClass (top 22) 0) .none "leastasked.shelf" 640 378
def o_742:PO:=fun _=>gO "_law_thing_call" "_law_thing_call" (top 33)
def o_618:PO:=fun _=>gO "ask" "Shelf.ask" (inClass (top 22) 1)
def o_716:PO:=fun _=>fO "_law_deed" "_law_deed" (top 29) .none "law_leastasked_k04_refused" 742 480
def o_634:PO:=fun _=>fO "names" "Shelf.names" (inClass (top 22) 3) .none "leastasked.shelf" 640 400
def o_700:PO:=fun _=>gO "_law_span" "_law_span" (top 27)
def o_756:PO:=fun _=>gO "_law_new_call" "_law_new_call" (top 35)
def o_626:PO:=fun _=>cR "drop" "Shelf.drop" 675 233 2 0 0 3 388 681
def o_658:PO:=fun _=>tO #[.str "self" 718,.str "name" 719,.str "reason" 720,.str "count" 721,.str "last" 722]
def o_708:PO:=fun _=>cR "_law_part" "_law_part" 773 288 1 0 0 3 468 777
def o_674:PO:=fun _=>{cls:=.type "builtin_function_or_method",data:=.fields #[.builtin "object.__init_subclass__",.ref 439]}
def o_610:PO:=fun _=>gO "__init__" "Shelf.__init__" (inClass (top 22) 0)
def o_740:PO:=fun _=>tO #[.str "_law_which" 824,.str "_law_thing" 825,.str "_law_name" 826,.str "_law_cell" 827,.str "_law_bad" 828]
def o_598:PO:=fun _=>{cls:=.type "type",data:=.cls {name:="Book",bases:=[.type "object"],mro:=[.ref 261,.type "object"],ns:=260,qualname:="Book",subclasses:=[.ref 363,.ref 439]},slots:=#[none,none,some (.str "Book" 339),some (.str "Book" 347),some (.builtin "object.__new__"),some (.bool true)]}
def o_688:PO:=fun _=>gO "_law_sign" "_law_sign" (top 25)
def o_654:PO:=fun _=>cR "take_in" "Shelf.take_in" 706 250 2 0 0 3 416 712
def o_670:PO:=fun _=>tO #[.str "gone" 735,.str "places" 736,.str "standing" 737]
def o_736:PO:=fun _=>cR "_law_bad_number" "_law_bad_number" 810 314 3 0 0 3 496 818
def o_630:PO:=fun _=>tO #[.str "self" 687]
def o_662:PO:=fun _=>fO "take_off" "Shelf.take_off" (inClass (top 22) 7) .none "leastasked.shelf" 640 428
def o_728:PO:=fun _=>gO "_law_bad_name" "_law_bad_name" (top 31)
def o_646:PO:=fun _=>gO "goings" "Shelf.goings" (inClass (top 22) 5)
def o_712:PO:=fun _=>tO #[.str "_law_cell" 783,.str "_law_k" 784,.str "_law_names_here" 785,.str "_law_span_here" 786,.str "_law_light" 787,.str "_law_mixed" 788,.str "_law_name" 789]
def o_744:PO:=fun _=>fO "_law_thing_call" "_law_thing_call" (top 33) .none "law_leastasked_k04_refused" 742 508
def o_747:PO:=fun _=>tO #[.str "_law_which" 835,.str "_law_shelf" 836,.str "_law_row" 837,.str "_law_name" 838,.str "_law_cell" 839]
def o_683:PO:=fun _=>fO "_law_cell_at" "_law_cell_at" (top 24) .none "law_leastasked_k04_refused" 742 447
def o_715:PO:=fun _=>cR "_law_deed" "_law_deed" 780 292 5 0 0 3 475 790
def o_633:PO:=fun _=>cR "names" "Shelf.names" 684 240 1 0 0 3 395 688
def o_665:PO:=fun _=>tO #[.str "self" 729,.str "name" 730,.str "last" 731]
def o_601:PO:=fun P=>dO #[en P "__module__" 649 (.str "leastasked.shelf" 640),en P "__qualname__" 651 (.str "Shelf" 650),en P "__firstlineno__" 653 (.int 216 652),en P "__init__" 663 (.ref 379),en P "ask" 674 (.ref 387),en P "drop" 683 (.ref 394),en P "names" 690 (.ref 401),en P "has" 698 (.ref 408),en P "goings" 705 (.ref 415),en P "take_in" 714 (.ref 422),en P "take_off" 725 (.ref 429),en P "fade" 734 (.ref 436),en P "__static_attributes__" 738 (.ref 437)] 13
def o_625:PO:=fun _=>gO "drop" "Shelf.drop" (inClass (top 22) 2)
def o_723:PO:=fun _=>fO "_law_do" "_law_do" (top 30) .none "law_leastasked_k04_refused" 742 487
def o_641:PO:=fun _=>fO "has" "Shelf.has" (inClass (top 22) 4) .none "leastasked.shelf" 640 407
def o_707:PO:=fun _=>gO "_law_part" "_law_part" (top 28)
def o_673:PO:=fun _=>{cls:=.type "super",data:=.fields #[.ref 439,.ref 439,.ref 439]}
def o_676:PO:=fun _=>{cls:=.none,data:=.fields #[.int 2 0,.int 0 0,.ref 20,.int 4 0,.int 0 0,.ref 33,.int 6 0,.int 0 0,.ref 45,.int 8 0,.int 0 0,.ref 57,.int 11 0,.int 0 0,.ref 69,.int 15 0,.int 0 0,.ref 74,.int 19 0,.int 0 0,.ref 81,.int 22 0,.int 0 0,.ref 88,.int 25 0,.int 0 0,.ref 95,.int 28 0,.int 0 0,.ref 102,.int 31 0,.int 0 0,.ref 109,.int 34 0,.int 0 0,.ref 116,.int 40 0,.int 0 0,.ref 123,.int 42 0,.int 0 0,.ref 130,.int 48 0,.int 0 0,.ref 137,.int 134 0,.int 0 0,.ref 271,.int 216 0,.int 0 0,.ref 371,.int 264 0,.int 0 0,.ref 447,.int 268 0,.int 0 0,.ref 454,.int 272 0,.int 0 0,.ref 459,.int 284 0,.int 0 0,.ref 466,.int 288 0,.int 0 0,.ref 473,.int 292 0,.int 0 0,.ref 480,.int 302 0,.int 0 0,.ref 487,.int 310 0,.int 0 0,.ref 494,.int 314 0,.int 0 0,.ref 501,.int 318 0,.int 0 0,.ref 508,.int 334 0,.int 0 0,.ref 515,.int 343 0,.int 0 0,.ref 522]}
def o_751:PO:=fun _=>fO "_law_own_call" "_law_own_call" (top 34) .none "law_leastasked_k04_refused" 742 515
def o_653:PO:=fun _=>gO "take_in" "Shelf.take_in" (inClass (top 22) 6)
def o_719:PO:=fun _=>tO #[.str "_law_thing" 796,.str "_law_deed_here" 797]
def o_637:PO:=fun _=>tO #[.str "self" 694,.str "name" 695]
def o_669:PO:=fun _=>fO "fade" "Shelf.fade" (inClass (top 22) 8) .none "leastasked.shelf" 640 435
def o_605:PO:=fun _=>{cls:=.type "frame",slots:=#[some (.ref 371),some (.ref 3),some (.ref 368),none,some (.str "leastasked.shelf" 640),none,some (.ref 0)]}
def o_735:PO:=fun _=>gO "_law_bad_number" "_law_bad_number" (top 32)
def o_695:PO:=fun _=>fO "_law_names" "_law_names" (top 26) .none "law_leastasked_k04_refused" 742 459
def o_661:PO:=fun _=>cR "take_off" "Shelf.take_off" 715 256 5 0 0 3 423 723
def o_679:PO:=fun _=>tO #[.str "_law_script" 747,.str "_law_k" 748]
def o_613:PO:=fun _=>tO #[.int 1 664]
def o_743:PO:=fun _=>cR "_law_thing_call" "_law_thing_call" 821 318 4 0 0 3 503 829
def o_749:PO:=fun _=>gO "_law_own_call" "_law_own_call" (top 34)
def o_619:PO:=fun _=>cR "ask" "Shelf.ask" 665 225 3 0 0 3 381 672
def o_651:PO:=fun _=>tO #[.str "self" 709,.str "name" 710,.str "weakest" 711]
def o_701:PO:=fun _=>cR "_law_span" "_law_span" 766 284 1 0 0 3 461 770
def o_667:PO:=fun _=>gO "fade" "Shelf.fade" (inClass (top 22) 8)
def o_603:PO:=fun _=>{cls:=.none,data:=.fields #[.int 218 0,.int 4 0,.ref 378,.int 225 0,.int 4 0,.ref 386,.int 233 0,.int 4 0,.ref 393,.int 240 0,.int 4 0,.ref 400,.int 243 0,.int 4 0,.ref 407,.int 247 0,.int 4 0,.ref 414,.int 250 0,.int 4 0,.ref 421,.int 256 0,.int 4 0,.ref 428,.int 260 0,.int 4 0,.ref 435]}
def o_733:PO:=fun _=>tO #[.str "_law_cell" 813,.str "_law_least" 814,.str "_law_most" 815,.str "_law_far" 816,.str "_law_some" 817]
def o_757:PO:=fun _=>cR "_law_new_call" "_law_new_call" 843 343 2 0 0 3 517 850
def o_627:PO:=fun _=>fO "drop" "Shelf.drop" (inClass (top 22) 2) .none "leastasked.shelf" 640 393
def o_693:PO:=fun _=>gO "_law_names" "_law_names" (top 26)
def o_709:PO:=fun _=>fO "_law_part" "_law_part" (top 28) .none "law_leastasked_k04_refused" 742 473
def o_611:PO:=fun _=>cR "__init__" "Shelf.__init__" 654 218 4 0 0 3 373 661
def o_623:PO:=fun _=>tO #[.str "self" 678,.str "name" 679,.str "stood" 680]
def o_689:PO:=fun _=>cR "_law_sign" "_law_sign" 752 268 1 0 0 3 449 757
def o_655:PO:=fun _=>fO "take_in" "Shelf.take_in" (inClass (top 22) 6) .none "leastasked.shelf" 640 421
def o_721:PO:=fun _=>gO "_law_do" "_law_do" (top 30)
def o_639:PO:=fun _=>gO "has" "Shelf.has" (inClass (top 22) 4)
def o_705:PO:=fun _=>tO #[.str "_law_cell" 776]
def o_671:PO:=fun P=>dO #[en P "__module__" 649 (.str "leastasked.shelf" 640),en P "__firstlineno__" 653 (.int 216 652),en P "__init__" 663 (.ref 379),en P "ask" 674 (.ref 387),en P "drop" 683 (.ref 394),en P "names" 690 (.ref 401),en P "has" 698 (.ref 408),en P "goings" 705 (.ref 415),en P "take_in" 714 (.ref 422),en P "take_off" 725 (.ref 429),en P "fade" 734 (.ref 436),en P "__static_attributes__" 738 (.ref 437),en P "__doc__" 739 .none] 2
def o_737:PO:=fun _=>fO "_law_bad_number" "_law_bad_number" (top 32) .none "law_leastasked_k04_refused" 742 501
def o_729:PO:=fun _=>cR "_law_bad_name" "_law_bad_name" 801 310 2 0 0 3 489 807
def o_647:PO:=fun _=>cR "goings" "Shelf.goings" 699 247 1 0 0 3 409 703
def o_681:PO:=fun _=>gO "_law_cell_at" "_law_cell_at" (top 24)
def o_759:PO:=fun P=>dO #[en P "__name__" 165 (.str "law_leastasked_k04_refused" 742),en P "__doc__" 166 .none,en P "__package__" 167 .none,en P "__loader__" 168 (.builtin "__main__.__loader__#opaque"),en P "__spec__" 169 .none,en P "__annotations__" 170 (.ref 6),en P "__builtins__" 171 (.ref 4),en P "__file__" 173 (.str "/claim/cut.py" 172),en P "__cached__" 174 .none,en P "ShelfError" 206 (.ref 24),en P "NoName" 222 (.ref 37),en P "NoNumber" 238 (.ref 49),en P "NoRule" 254 (.ref 61),en P "is_whole_within" 265 (.ref 70),en P "is_name" 271 (.ref 75),en P "check_name" 278 (.ref 82),en P "check_weight" 285 (.ref 89),en P "check_steps" 292 (.ref 96),en P "check_places" 299 (.ref 103),en P "check_many" 306 (.ref 110),en P "check_rule" 314 (.ref 117),en P "ageings" 325 (.ref 124),en P "aged" 336 (.ref 131),en P "Book" 509 (.ref 261),en P "Row" 639 (.ref 363),en P "Shelf" 741 (.ref 439),en P "_law_cell_at" 751 (.ref 448),en P "_law_sign" 759 (.ref 455),en P "_law_names" 765 (.ref 460),en P "_law_span" 772 (.ref 467),en P "_law_part" 779 (.ref 474),en P "_law_deed" 792 (.ref 481),en P "_law_do" 800 (.ref 488),en P "_law_bad_name" 809 (.ref 495),en P "_law_bad_number" 820 (.ref 502),en P "_law_thing_call" 831 (.ref 509),en P "_law_own_call" 842 (.ref 516),en P "_law_new_call" 852 (.ref 523),en P "_law_due" 859 (.ref 530),en P "_law_call" 869 (.ref 537),en P "_law_by_base" 882 (.ref 544),en P "_law_by_name" 893 (.ref 551),en P "_law_same" 901 (.ref 558),en P "_law_twins" 911 (.ref 565),en P "law" 917 (.ref 570)] 45
def o_780:PO:=fun _=>cR "_law_by_base" "_law_by_base" 870 379 4 0 0 3 538 880
def o_788:PO:=fun _=>fO "_law_by_name" "_law_by_name" (top 39) .none "law_leastasked_k04_refused" 742 550
def o_772:PO:=fun _=>gO "_law_call" "_law_call" (top 37)
def o_784:PO:=fun _=>tO #[.str "_law_which" 886,.str "_law_things" 887,.str "_law_name" 888,.str "_law_cell" 889,.str "_law_told" 890]
def o_800:PO:=fun _=>gO "_law_twins" "_law_twins" (top 41)
def o_766:PO:=fun _=>cR "_law_due" "_law_due" 853 362 1 0 0 3 524 857
def o_798:PO:=fun _=>tO #[.str "_law_thing" 905,.str "_law_twin" 906,.str "_law_names_here" 907,.str "_law_name" 908]
def o_774:PO:=fun _=>fO "_law_call" "_law_call" (top 37) .none "law_leastasked_k04_refused" 742 536
def o_806:PO:=fun _=>cO "law" "law" 912 409 1 0 0 3 566 true 567 915 .none .none .none (.ref 568)
def o_786:PO:=fun _=>gO "_law_by_name" "_law_by_name" (top 39)
def o_770:PO:=fun _=>tO #[.str "_law_which" 863,.str "_law_things" 864,.str "_law_name" 865,.str "_law_cell" 866]
def o_802:PO:=fun _=>fO "_law_twins" "_law_twins" (top 41) .none "law_leastasked_k04_refused" 742 564
def o_794:PO:=fun _=>cR "_law_same" "_law_same" 894 398 2 0 0 3 552 899
def o_781:PO:=fun _=>fO "_law_by_base" "_law_by_base" (top 38) .none "law_leastasked_k04_refused" 742 543
def o_765:PO:=fun _=>gO "_law_due" "_law_due" (top 36)
def o_773:PO:=fun _=>cR "_law_call" "_law_call" 860 370 4 0 0 3 531 867
def o_805:PO:=fun _=>gO "law" "law" (top 42)
def o_760:PO:=fun _=>{cls:=.none,data:=.fields #[.int 2 0,.int 0 0,.ref 20,.int 4 0,.int 0 0,.ref 33,.int 6 0,.int 0 0,.ref 45,.int 8 0,.int 0 0,.ref 57,.int 11 0,.int 0 0,.ref 69,.int 15 0,.int 0 0,.ref 74,.int 19 0,.int 0 0,.ref 81,.int 22 0,.int 0 0,.ref 88,.int 25 0,.int 0 0,.ref 95,.int 28 0,.int 0 0,.ref 102,.int 31 0,.int 0 0,.ref 109,.int 34 0,.int 0 0,.ref 116,.int 40 0,.int 0 0,.ref 123,.int 42 0,.int 0 0,.ref 130,.int 48 0,.int 0 0,.ref 137,.int 134 0,.int 0 0,.ref 271,.int 216 0,.int 0 0,.ref 371,.int 264 0,.int 0 0,.ref 447,.int 268 0,.int 0 0,.ref 454,.int 272 0,.int 0 0,.ref 459,.int 284 0,.int 0 0,.ref 466,.int 288 0,.int 0 0,.ref 473,.int 292 0,.int 0 0,.ref 480,.int 302 0,.int 0 0,.ref 487,.int 310 0,.int 0 0,.ref 494,.int 314 0,.int 0 0,.ref 501,.int 318 0,.int 0 0,.ref 508,.int 334 0,.int 0 0,.ref 515,.int 343 0,.int 0 0,.ref 522,.int 362 0,.int 0 0,.ref 529,.int 370 0,.int 0 0,.ref 536,.int 379 0,.int 0 0,.ref 543,.int 387 0,.int 0 0,.ref 550,.int 398 0,.int 0 0,.ref 557,.int 402 0,.int 0 0,.ref 564,.int 409 0,.int 0 0,.ref 569]}
def o_801:PO:=fun _=>cR "_law_twins" "_law_twins" 902 402 3 0 0 3 559 909
def o_793:PO:=fun _=>gO "_law_same" "_law_same" (top 40)
def o_777:PO:=fun _=>tO #[.str "_law_which" 873,.str "_law_things" 874,.str "_law_name" 875,.str "_law_cell" 876,.str "_law_told" 877,.str "e" 878,.str "_law_due_here" 879]
def o_767:PO:=fun _=>fO "_law_due" "_law_due" (top 36) .none "law_leastasked_k04_refused" 742 529
def o_791:PO:=fun _=>tO #[.str "_law_found" 897,.str "_law_due_here" 898]
def o_807:PO:=fun _=>fO "law" "law" (top 42) .none "law_leastasked_k04_refused" 742 569
def o_787:PO:=fun _=>cR "_law_by_name" "_law_by_name" 883 387 4 0 0 3 545 891
def o_763:PO:=fun _=>tO #[.str "_law_which" 856]
def o_795:PO:=fun _=>fO "_law_same" "_law_same" (top 40) .none "law_leastasked_k04_refused" 742 557
def o_779:PO:=fun _=>gO "_law_by_base" "_law_by_base" (top 38)
def KK:Params->Frag:=fun P=>
(nat_lit 2,{cls:=.none,data:=.dict #[]})::
(nat_lit 3,o_759 P)::
(nat_lit 15,o_51 P)::
(nat_lit 22,o_43 P)::
(nat_lit 23,o_59 P)::
(nat_lit 24,o_96 P)::
(nat_lit 25,o_61 P)::
(nat_lit 28,o_82 P)::
(nat_lit 35,o_43 P)::
(nat_lit 36,o_75 P)::
(nat_lit 37,o_76 P)::
(nat_lit 40,o_82 P)::
(nat_lit 47,o_43 P)::
(nat_lit 48,o_90 P)::
(nat_lit 49,o_91 P)::
(nat_lit 52,o_82 P)::
(nat_lit 59,o_43 P)::
(nat_lit 60,o_105 P)::
(nat_lit 61,o_106 P)::
(nat_lit 64,o_43 P)::
(nat_lit 66,o_111 P)::
(nat_lit 67,o_43 P)::
(nat_lit 69,o_114 P)::
(nat_lit 70,o_115 P)::
(nat_lit 71,o_43 P)::
(nat_lit 74,o_119 P)::
(nat_lit 75,o_120 P)::
(nat_lit 76,o_43 P)::
(nat_lit 78,o_123 P)::
(nat_lit 79,o_43 P)::
(nat_lit 81,o_126 P)::
(nat_lit 82,o_127 P)::
(nat_lit 83,o_43 P)::
(nat_lit 85,o_130 P)::
(nat_lit 86,o_43 P)::
(nat_lit 88,o_133 P)::
(nat_lit 89,o_134 P)::
(nat_lit 90,o_43 P)::
(nat_lit 92,o_137 P)::
(nat_lit 93,o_43 P)::
(nat_lit 95,o_140 P)::
(nat_lit 96,o_141 P)::
(nat_lit 97,o_43 P)::
(nat_lit 99,o_144 P)::
(nat_lit 100,o_43 P)::
(nat_lit 102,o_147 P)::
(nat_lit 103,o_148 P)::
(nat_lit 104,o_43 P)::
(nat_lit 106,o_153 P)::
(nat_lit 107,o_43 P)::
(nat_lit 109,o_156 P)::
(nat_lit 110,o_157 P)::
(nat_lit 111,o_43 P)::
(nat_lit 113,o_160 P)::
(nat_lit 114,o_43 P)::
(nat_lit 116,o_163 P)::
(nat_lit 117,o_164 P)::
(nat_lit 118,o_43 P)::
(nat_lit 120,o_167 P)::
(nat_lit 121,o_43 P)::
(nat_lit 123,o_170 P)::
(nat_lit 124,o_171 P)::
(nat_lit 125,o_43 P)::
(nat_lit 127,o_174 P)::
(nat_lit 128,o_43 P)::
(nat_lit 130,o_177 P)::
(nat_lit 131,o_178 P)::
(nat_lit 139,o_43 P)::
(nat_lit 141,o_190 P)::
(nat_lit 142,o_43 P)::
(nat_lit 144,o_193 P)::
(nat_lit 145,o_194 P)::
(nat_lit 146,o_195 P)::
(nat_lit 147,o_43 P)::
(nat_lit 149,o_198 P)::
(nat_lit 150,o_43 P)::
(nat_lit 152,o_201 P)::
(nat_lit 153,o_202 P)::
(nat_lit 154,o_43 P)::
(nat_lit 156,o_205 P)::
(nat_lit 157,o_43 P)::
(nat_lit 159,o_208 P)::
(nat_lit 160,o_209 P)::
(nat_lit 161,o_43 P)::
(nat_lit 163,o_212 P)::
(nat_lit 164,o_43 P)::
(nat_lit 166,o_215 P)::
(nat_lit 167,o_216 P)::
(nat_lit 168,o_43 P)::
(nat_lit 170,o_219 P)::
(nat_lit 171,o_43 P)::
(nat_lit 173,o_222 P)::
(nat_lit 174,o_223 P)::
(nat_lit 175,o_43 P)::
(nat_lit 177,o_226 P)::
(nat_lit 178,o_43 P)::
(nat_lit 180,o_229 P)::
(nat_lit 181,o_230 P)::
(nat_lit 182,o_43 P)::
(nat_lit 184,o_233 P)::
(nat_lit 185,o_43 P)::
(nat_lit 187,o_236 P)::
(nat_lit 188,o_237 P)::
(nat_lit 189,o_43 P)::
(nat_lit 191,o_240 P)::
(nat_lit 192,o_43 P)::
(nat_lit 194,o_243 P)::
(nat_lit 195,o_244 P)::
(nat_lit 196,o_43 P)::
(nat_lit 198,o_247 P)::
(nat_lit 199,o_43 P)::
(nat_lit 201,o_250 P)::
(nat_lit 202,o_251 P)::
(nat_lit 203,o_43 P)::
(nat_lit 205,o_254 P)::
(nat_lit 206,o_43 P)::
(nat_lit 208,o_257 P)::
(nat_lit 209,o_258 P)::
(nat_lit 210,o_43 P)::
(nat_lit 212,o_261 P)::
(nat_lit 213,o_43 P)::
(nat_lit 215,o_264 P)::
(nat_lit 216,o_265 P)::
(nat_lit 217,o_43 P)::
(nat_lit 219,o_268 P)::
(nat_lit 220,o_43 P)::
(nat_lit 222,o_271 P)::
(nat_lit 223,o_272 P)::
(nat_lit 224,o_43 P)::
(nat_lit 226,o_275 P)::
(nat_lit 227,o_43 P)::
(nat_lit 229,o_278 P)::
(nat_lit 230,o_279 P)::
(nat_lit 231,o_43 P)::
(nat_lit 233,o_282 P)::
(nat_lit 234,o_43 P)::
(nat_lit 236,o_285 P)::
(nat_lit 237,o_286 P)::
(nat_lit 238,o_43 P)::
(nat_lit 240,o_289 P)::
(nat_lit 241,o_43 P)::
(nat_lit 243,o_292 P)::
(nat_lit 244,o_293 P)::
(nat_lit 245,o_43 P)::
(nat_lit 247,o_296 P)::
(nat_lit 248,o_43 P)::
(nat_lit 250,o_299 P)::
(nat_lit 251,o_300 P)::
(nat_lit 252,o_43 P)::
(nat_lit 254,o_303 P)::
(nat_lit 255,o_43 P)::
(nat_lit 257,o_306 P)::
(nat_lit 258,o_307 P)::
(nat_lit 259,o_308 P)::
(nat_lit 260,o_309 P)::
(nat_lit 261,o_598 P)::
(nat_lit 262,o_311 P)::
(nat_lit 263,o_312 P)::
(nat_lit 266,o_409 P)::
(nat_lit 273,o_43 P)::
(nat_lit 275,o_418 P)::
(nat_lit 276,o_43 P)::
(nat_lit 278,o_421 P)::
(nat_lit 279,o_422 P)::
(nat_lit 280,o_423 P)::
(nat_lit 281,o_43 P)::
(nat_lit 283,o_426 P)::
(nat_lit 284,o_43 P)::
(nat_lit 286,o_429 P)::
(nat_lit 287,o_430 P)::
(nat_lit 288,o_43 P)::
(nat_lit 290,o_433 P)::
(nat_lit 291,o_43 P)::
(nat_lit 293,o_436 P)::
(nat_lit 294,o_437 P)::
(nat_lit 295,o_43 P)::
(nat_lit 297,o_440 P)::
(nat_lit 298,o_43 P)::
(nat_lit 300,o_443 P)::
(nat_lit 301,o_444 P)::
(nat_lit 302,o_43 P)::
(nat_lit 304,o_447 P)::
(nat_lit 305,o_43 P)::
(nat_lit 307,o_450 P)::
(nat_lit 308,o_451 P)::
(nat_lit 309,o_43 P)::
(nat_lit 311,o_454 P)::
(nat_lit 312,o_43 P)::
(nat_lit 314,o_457 P)::
(nat_lit 315,o_458 P)::
(nat_lit 316,o_43 P)::
(nat_lit 319,o_462 P)::
(nat_lit 320,o_463 P)::
(nat_lit 321,o_43 P)::
(nat_lit 323,o_466 P)::
(nat_lit 324,o_43 P)::
(nat_lit 326,o_469 P)::
(nat_lit 327,o_470 P)::
(nat_lit 328,o_43 P)::
(nat_lit 331,o_474 P)::
(nat_lit 332,o_475 P)::
(nat_lit 333,o_43 P)::
(nat_lit 335,o_478 P)::
(nat_lit 336,o_43 P)::
(nat_lit 338,o_481 P)::
(nat_lit 339,o_482 P)::
(nat_lit 340,o_43 P)::
(nat_lit 342,o_485 P)::
(nat_lit 343,o_43 P)::
(nat_lit 345,o_488 P)::
(nat_lit 346,o_489 P)::
(nat_lit 347,o_43 P)::
(nat_lit 349,o_492 P)::
(nat_lit 350,o_43 P)::
(nat_lit 352,o_495 P)::
(nat_lit 353,o_496 P)::
(nat_lit 354,o_43 P)::
(nat_lit 356,o_499 P)::
(nat_lit 357,o_43 P)::
(nat_lit 359,o_502 P)::
(nat_lit 360,o_503 P)::
(nat_lit 361,o_504 P)::
(nat_lit 362,o_505 P)::
(nat_lit 363,o_506 P)::
(nat_lit 366,o_409 P)::
(nat_lit 373,o_43 P)::
(nat_lit 375,o_608 P)::
(nat_lit 376,o_43 P)::
(nat_lit 378,o_611 P)::
(nat_lit 379,o_612 P)::
(nat_lit 380,o_613 P)::
(nat_lit 381,o_43 P)::
(nat_lit 383,o_616 P)::
(nat_lit 384,o_43 P)::
(nat_lit 386,o_619 P)::
(nat_lit 387,o_620 P)::
(nat_lit 388,o_43 P)::
(nat_lit 390,o_623 P)::
(nat_lit 391,o_43 P)::
(nat_lit 393,o_626 P)::
(nat_lit 394,o_627 P)::
(nat_lit 395,o_43 P)::
(nat_lit 397,o_630 P)::
(nat_lit 398,o_43 P)::
(nat_lit 400,o_633 P)::
(nat_lit 401,o_634 P)::
(nat_lit 402,o_43 P)::
(nat_lit 404,o_637 P)::
(nat_lit 405,o_43 P)::
(nat_lit 407,o_640 P)::
(nat_lit 408,o_641 P)::
(nat_lit 409,o_43 P)::
(nat_lit 411,o_644 P)::
(nat_lit 412,o_43 P)::
(nat_lit 414,o_647 P)::
(nat_lit 415,o_648 P)::
(nat_lit 416,o_43 P)::
(nat_lit 418,o_651 P)::
(nat_lit 419,o_43 P)::
(nat_lit 421,o_654 P)::
(nat_lit 422,o_655 P)::
(nat_lit 423,o_43 P)::
(nat_lit 425,o_658 P)::
(nat_lit 426,o_43 P)::
(nat_lit 428,o_661 P)::
(nat_lit 429,o_662 P)::
(nat_lit 430,o_43 P)::
(nat_lit 432,o_665 P)::
(nat_lit 433,o_43 P)::
(nat_lit 435,o_668 P)::
(nat_lit 436,o_669 P)::
(nat_lit 437,o_670 P)::
(nat_lit 438,o_671 P)::
(nat_lit 439,o_672 P)::
(nat_lit 442,o_43 P)::
(nat_lit 444,o_679 P)::
(nat_lit 445,o_43 P)::
(nat_lit 447,o_682 P)::
(nat_lit 448,o_683 P)::
(nat_lit 449,o_43 P)::
(nat_lit 451,o_686 P)::
(nat_lit 452,o_43 P)::
(nat_lit 454,o_689 P)::
(nat_lit 455,o_690 P)::
(nat_lit 456,o_43 P)::
(nat_lit 459,o_694 P)::
(nat_lit 460,o_695 P)::
(nat_lit 461,o_43 P)::
(nat_lit 463,o_698 P)::
(nat_lit 464,o_43 P)::
(nat_lit 466,o_701 P)::
(nat_lit 467,o_702 P)::
(nat_lit 468,o_43 P)::
(nat_lit 470,o_705 P)::
(nat_lit 471,o_43 P)::
(nat_lit 473,o_708 P)::
(nat_lit 474,o_709 P)::
(nat_lit 475,o_43 P)::
(nat_lit 477,o_712 P)::
(nat_lit 478,o_43 P)::
(nat_lit 480,o_715 P)::
(nat_lit 481,o_716 P)::
(nat_lit 482,o_43 P)::
(nat_lit 484,o_719 P)::
(nat_lit 485,o_43 P)::
(nat_lit 487,o_722 P)::
(nat_lit 488,o_723 P)::
(nat_lit 489,o_43 P)::
(nat_lit 491,o_726 P)::
(nat_lit 492,o_43 P)::
(nat_lit 494,o_729 P)::
(nat_lit 495,o_730 P)::
(nat_lit 496,o_43 P)::
(nat_lit 498,o_733 P)::
(nat_lit 499,o_43 P)::
(nat_lit 501,o_736 P)::
(nat_lit 502,o_737 P)::
(nat_lit 503,o_43 P)::
(nat_lit 505,o_740 P)::
(nat_lit 506,o_43 P)::
(nat_lit 508,o_743 P)::
(nat_lit 509,o_744 P)::
(nat_lit 510,o_43 P)::
(nat_lit 512,o_747 P)::
(nat_lit 513,o_43 P)::
(nat_lit 515,o_750 P)::
(nat_lit 516,o_751 P)::
(nat_lit 517,o_43 P)::
(nat_lit 519,o_754 P)::
(nat_lit 520,o_43 P)::
(nat_lit 522,o_757 P)::
(nat_lit 523,o_758 P)::
(nat_lit 524,o_43 P)::
(nat_lit 526,o_763 P)::
(nat_lit 527,o_43 P)::
(nat_lit 529,o_766 P)::
(nat_lit 530,o_767 P)::
(nat_lit 531,o_43 P)::
(nat_lit 533,o_770 P)::
(nat_lit 534,o_43 P)::
(nat_lit 536,o_773 P)::
(nat_lit 537,o_774 P)::
(nat_lit 538,o_43 P)::
(nat_lit 540,o_777 P)::
(nat_lit 541,o_43 P)::
(nat_lit 543,o_780 P)::
(nat_lit 544,o_781 P)::
(nat_lit 545,o_43 P)::
(nat_lit 547,o_784 P)::
(nat_lit 548,o_43 P)::
(nat_lit 550,o_787 P)::
(nat_lit 551,o_788 P)::
(nat_lit 552,o_43 P)::
(nat_lit 554,o_791 P)::
(nat_lit 555,o_43 P)::
(nat_lit 557,o_794 P)::
(nat_lit 558,o_795 P)::
(nat_lit 559,o_43 P)::
(nat_lit 561,o_798 P)::
(nat_lit 562,o_43 P)::
(nat_lit 564,o_801 P)::
(nat_lit 565,o_802 P)::
(nat_lit 566,o_43 P)::
(nat_lit 569,o_806 P)::
(nat_lit 570,o_807 P)::[]
def KA:List Addr:=[2,3,15,22,23,24,25,28,35,36,37,40,47,48,49,52,59,60,61,64,66,67,69,70,71,74,75,76,78,79,81,82,83,85,86,88,89,90,92,93,95,96,97,99,100,102,103,104,106,107,109,110,111,113,114,116,117,118,120,121,123,124,125,127,128,130,131,139,141,142,144,145,146,147,149,150,152,153,154,156,157,159,160,161,163,164,166,167,168,170,171,173,174,175,177,178,180,181,182,184,185,187,188,189,191,192,194,195,196,198,199,201,202,203,205,206,208,209,210,212,213,215,216,217,219,220,222,223,224,226,227,229,230,231,233,234,236,237,238,240,241,243,244,245,247,248,250,251,252,254,255,257,258,259,260,261,262,263,266,273,275,276,278,279,280,281,283,284,286,287,288,290,291,293,294,295,297,298,300,301,302,304,305,307,308,309,311,312,314,315,316,319,320,321,323,324,326,327,328,331,332,333,335,336,338,339,340,342,343,345,346,347,349,350,352,353,354,356,357,359,360,361,362,363,366,373,375,376,378,379,380,381,383,384,386,387,388,390,391,393,394,395,397,398,400,401,402,404,405,407,408,409,411,412,414,415,416,418,419,421,422,423,425,426,428,429,430,432,433,435,436,437,438,439,442,444,445,447,448,449,451,452,454,455,456,459,460,461,463,464,466,467,468,470,471,473,474,475,477,478,480,481,482,484,485,487,488,489,491,492,494,495,496,498,499,501,502,503,505,506,508,509,510,512,513,515,516,517,519,520,522,523,524,526,527,529,530,531,533,534,536,537,538,540,541,543,544,545,547,548,550,551,552,554,555,557,558,559,561,562,564,565,566,569,570]
theorem ka (P:Params):KA=(KK P).map (·.1):=by kernel_rfl
def hook:Hook:=kHook KK KA ka
def view:Program:={PySem.Challenge.pw_leastasked_k04_refused with main:={PySem.Challenge.pw_leastasked_k04_refused.main with body:=[top 1,top 2,top 3,top 4,top 6,top 7,top 8,top 9,top 10,top 11,top 12,top 13,top 15,top 16,top 18,top 20,top 22,top 24,top 25,top 26,top 27,top 28,top 29,top 30,top 31,top 32,top 33,top 34,top 35,top 36,top 37,top 38,top 39,top 40,top 41,top 42]}}
def seenX:Shared->Bool:=fun s=>xlAt view [] s&&recOk (PySem.Challenge.rw_leastasked_k04_refused).row.records s
def h0:Params->Heap:=fun P=>{objs:={toList:=[boot_o_0 P,boot_o_1 P,boot_o_2 P,boot_o_3 P,boot_o_4 P,boot_o_5 P,boot_o_6 P,boot_o_7 P,boot_o_8 P,boot_o_9 P,boot_o_10 P,o_43 P,o_44 P,o_45 P,o_46 P]}}
def t0:PT:=Nn boot_o_0 (Nn boot_o_1 (Nn boot_o_3 (Lf boot_o_7) (Lf o_43)) (Nn boot_o_5 (Lf boot_o_9) (Lf o_45))) (Nn boot_o_2 (Nn boot_o_4 (Lf boot_o_8) (Lf o_44)) (Nn boot_o_6 (Lf boot_o_10) (Lf o_46)))
def t1:PT:=Nn boot_o_0 (Nn boot_o_1 (Nn o_79 (Nn boot_o_7 (Nn o_51 (Lf o_43) (Lf o_43)) (Nn o_59 (Lf o_78) Ze)) (Nn o_43 (Nn o_44 (Lf o_43) (Lf o_93)) (Nn o_63 (Lf o_43) Ze))) (Nn boot_o_5 (Nn boot_o_9 (Nn o_53 (Lf o_72) (Lf o_91)) (Nn o_61 (Lf o_83) Ze)) (Nn o_45 (Nn o_57 (Lf o_76) Ze) (Nn o_83 (Lf o_87) Ze)))) (Nn boot_o_2 (Nn boot_o_4 (Nn boot_o_8 (Nn o_83 (Lf o_44) (Lf o_90)) (Nn o_81 (Lf o_82) Ze)) (Nn o_80 (Nn o_56 (Lf o_75) Ze) (Nn o_82 (Lf o_44) Ze))) (Nn boot_o_6 (Nn boot_o_10 (Nn o_43 (Lf o_73) (Lf o_92)) (Nn o_62 (Lf o_84) Ze)) (Nn o_46 (Nn o_43 (Lf o_77) Ze) (Nn o_69 (Lf o_88) Ze))))
def t2:PT:=Nn boot_o_0 (Nn boot_o_1 (Nn o_149 (Nn boot_o_7 (Nn o_51 (Nn o_43 (Nn o_108 (Lf o_174) Ze) (Lf o_140)) (Nn o_43 (Lf o_43) (Lf o_43))) (Nn o_59 (Nn o_78 (Lf o_43) (Lf o_148)) (Nn o_43 (Lf o_132) (Lf o_44)))) (Nn o_43 (Nn o_44 (Nn o_43 (Nn o_43 (Lf o_178) Ze) (Lf o_144)) (Nn o_93 (Lf o_43) (Lf o_162))) (Nn o_63 (Nn o_43 (Lf o_120) (Lf o_43)) (Nn o_43 (Lf o_44) (Lf o_170))))) (Nn boot_o_5 (Nn boot_o_9 (Nn o_53 (Nn o_72 (Nn o_44 (Lf o_176) Ze) (Lf o_43)) (Nn o_91 (Lf o_126) (Lf o_160))) (Nn o_61 (Nn o_83 (Lf o_118) (Lf o_44)) (Nn o_102 (Lf o_134) (Lf o_43)))) (Nn o_45 (Nn o_57 (Nn o_76 (Lf o_114) (Lf o_146)) (Nn o_83 (Lf o_130) (Lf o_164))) (Nn o_83 (Nn o_87 (Lf o_44) (Lf o_156)) (Nn o_106 (Lf o_43) (Lf o_43)))))) (Nn boot_o_2 (Nn boot_o_4 (Nn boot_o_8 (Nn o_83 (Nn o_44 (Nn o_43 (Lf o_43) Ze) (Lf o_141)) (Nn o_90 (Lf o_125) (Lf o_44))) (Nn o_96 (Nn o_82 (Lf o_44) (Lf o_43)) (Nn o_44 (Lf o_133) (Lf o_167)))) (Nn o_150 (Nn o_56 (Nn o_75 (Lf o_113) (Lf o_43)) (Nn o_82 (Lf o_44) (Lf o_163))) (Nn o_82 (Nn o_44 (Lf o_43) (Lf o_155)) (Nn o_105 (Lf o_137) (Lf o_171))))) (Nn boot_o_6 (Nn boot_o_10 (Nn o_43 (Nn o_73 (Nn o_111 (Lf o_177) Ze) (Lf o_44)) (Nn o_92 (Lf o_127) (Lf o_43))) (Nn o_62 (Nn o_84 (Lf o_119) (Lf o_153)) (Nn o_103 (Lf o_43) (Lf o_169)))) (Nn o_46 (Nn o_43 (Nn o_77 (Lf o_115) (Lf o_147)) (Nn o_99 (Lf o_43) (Lf o_43))) (Nn o_69 (Nn o_88 (Lf o_123) (Lf o_157)) (Nn o_107 (Lf o_139) (Lf o_44))))))
def t3:PT:=Nn boot_o_0 (Nn boot_o_1 (Nn o_404 (Nn boot_o_7 (Nn o_51 (Nn o_43 (Nn o_108 (Nn o_174 (Lf o_43) Ze) (Lf o_240)) (Nn o_140 (Lf o_208) (Lf o_272))) (Nn o_43 (Nn o_43 (Lf o_192) (Lf o_256)) (Nn o_43 (Lf o_43) (Lf o_44)))) (Nn o_59 (Nn o_78 (Nn o_43 (Nn o_43 (Lf o_312) Ze) (Lf o_43)) (Nn o_148 (Lf o_216) (Lf o_43))) (Nn o_43 (Nn o_132 (Lf o_200) (Lf o_264)) (Nn o_44 (Lf o_44) (Lf o_296))))) (Nn o_43 (Nn o_44 (Nn o_43 (Nn o_43 (Nn o_178 (Lf o_308) Ze) (Lf o_244)) (Nn o_144 (Lf o_212) (Lf o_43))) (Nn o_93 (Nn o_43 (Lf o_43) (Lf o_44)) (Nn o_162 (Lf o_228) (Lf o_292)))) (Nn o_63 (Nn o_43 (Nn o_120 (Lf o_43) (Lf o_43)) (Nn o_43 (Lf o_43) (Lf o_284))) (Nn o_43 (Nn o_44 (Lf o_44) (Lf o_268)) (Nn o_170 (Lf o_236) (Lf o_300)))))) (Nn boot_o_5 (Nn boot_o_9 (Nn o_53 (Nn o_72 (Nn o_44 (Nn o_176 (Lf o_306) Ze) (Lf o_242)) (Nn o_43 (Lf o_43) (Lf o_44))) (Nn o_91 (Nn o_126 (Lf o_194) (Lf o_258)) (Nn o_160 (Lf o_226) (Lf o_43)))) (Nn o_61 (Nn o_83 (Nn o_118 (Nn o_186 (Lf o_314) Ze) (Lf o_250)) (Nn o_44 (Lf o_44) (Lf o_282))) (Nn o_102 (Nn o_134 (Lf o_202) (Lf o_43)) (Nn o_43 (Lf o_43) (Lf o_298))))) (Nn o_45 (Nn o_57 (Nn o_76 (Nn o_114 (Nn o_83 (Lf o_310) Ze) (Lf o_44)) (Nn o_146 (Lf o_214) (Lf o_278))) (Nn o_83 (Nn o_130 (Lf o_198) (Lf o_43)) (Nn o_164 (Lf o_230) (Lf o_43)))) (Nn o_83 (Nn o_87 (Nn o_44 (Lf o_190) (Lf o_254)) (Nn o_156 (Lf o_222) (Lf o_286))) (Nn o_106 (Nn o_43 (Lf o_43) (Lf o_270)) (Nn o_43 (Lf o_43) (Lf o_44))))))) (Nn boot_o_2 (Nn boot_o_4 (Nn boot_o_8 (Nn o_83 (Nn o_44 (Nn o_43 (Nn o_43 (Lf o_305) Ze) (Lf o_43)) (Nn o_141 (Lf o_209) (Lf o_43))) (Nn o_90 (Nn o_125 (Lf o_193) (Lf o_257)) (Nn o_44 (Lf o_44) (Lf o_289)))) (Nn o_96 (Nn o_82 (Nn o_44 (Nn o_185 (Lf o_313) Ze) (Lf o_249)) (Nn o_43 (Lf o_43) (Lf o_44))) (Nn o_44 (Nn o_133 (Lf o_201) (Lf o_265)) (Nn o_167 (Lf o_233) (Lf o_43))))) (Nn o_180 (Nn o_56 (Nn o_75 (Nn o_113 (Nn o_43 (Lf o_309) Ze) (Lf o_43)) (Nn o_43 (Lf o_43) (Lf o_277))) (Nn o_82 (Nn o_44 (Lf o_44) (Lf o_261)) (Nn o_163 (Lf o_229) (Lf o_293)))) (Nn o_82 (Nn o_44 (Nn o_43 (Lf o_44) (Lf o_44)) (Nn o_155 (Lf o_221) (Lf o_285))) (Nn o_105 (Nn o_137 (Lf o_205) (Lf o_43)) (Nn o_171 (Lf o_237) (Lf o_43)))))) (Nn boot_o_6 (Nn boot_o_10 (Nn o_43 (Nn o_73 (Nn o_111 (Nn o_177 (Lf o_307) Ze) (Lf o_243)) (Nn o_44 (Lf o_44) (Lf o_275))) (Nn o_92 (Nn o_127 (Lf o_195) (Lf o_43)) (Nn o_43 (Lf o_43) (Lf o_291)))) (Nn o_62 (Nn o_84 (Nn o_119 (Lf o_187) (Lf o_251)) (Nn o_153 (Lf o_219) (Lf o_43))) (Nn o_103 (Nn o_43 (Lf o_43) (Lf o_44)) (Nn o_169 (Lf o_235) (Lf o_299))))) (Nn o_46 (Nn o_43 (Nn o_77 (Nn o_115 (Nn o_183 (Lf o_311) Ze) (Lf o_247)) (Nn o_147 (Lf o_215) (Lf o_279))) (Nn o_99 (Nn o_43 (Lf o_43) (Lf o_263)) (Nn o_43 (Lf o_43) (Lf o_44)))) (Nn o_69 (Nn o_88 (Nn o_123 (Lf o_43) (Lf o_43)) (Nn o_157 (Lf o_223) (Lf o_43))) (Nn o_107 (Nn o_139 (Lf o_207) (Lf o_271)) (Nn o_44 (Lf o_44) (Lf o_303)))))))
def t4:PT:=Nn boot_o_0 (Nn boot_o_1 (Nn o_594 (Nn boot_o_7 (Nn o_51 (Nn o_43 (Nn o_108 (Nn o_174 (Lf o_43) Ze) (Nn o_240 (Lf o_462) Ze)) (Nn o_140 (Nn o_208 (Lf o_430) Ze) (Nn o_272 (Lf o_494) Ze))) (Nn o_43 (Nn o_43 (Nn o_192 (Lf o_414) Ze) (Nn o_256 (Lf o_478) Ze)) (Nn o_43 (Nn o_43 (Lf o_44) Ze) (Lf o_44)))) (Nn o_59 (Nn o_78 (Nn o_43 (Nn o_43 (Lf o_312) Ze) (Nn o_43 (Lf o_470) Ze)) (Nn o_148 (Nn o_216 (Lf o_43) Ze) (Nn o_43 (Lf o_502) Ze))) (Nn o_43 (Nn o_132 (Nn o_200 (Lf o_422) Ze) (Nn o_264 (Lf o_43) Ze)) (Nn o_44 (Nn o_44 (Lf o_454) Ze) (Lf o_296))))) (Nn o_43 (Nn o_44 (Nn o_43 (Nn o_43 (Nn o_178 (Lf o_308) Ze) (Nn o_244 (Lf o_466) Ze)) (Nn o_144 (Nn o_212 (Lf o_43) Ze) (Nn o_43 (Lf o_44) Ze))) (Nn o_93 (Nn o_43 (Nn o_43 (Lf o_418) Ze) (Nn o_44 (Lf o_482) Ze)) (Nn o_162 (Nn o_228 (Lf o_450) Ze) (Lf o_292)))) (Nn o_63 (Nn o_43 (Nn o_120 (Nn o_43 (Lf o_83) Ze) (Nn o_43 (Lf o_474) Ze)) (Nn o_43 (Nn o_43 (Lf o_442) Ze) (Nn o_284 (Lf o_506) Ze))) (Nn o_43 (Nn o_44 (Nn o_44 (Lf o_426) Ze) (Nn o_268 (Lf o_43) Ze)) (Nn o_170 (Nn o_236 (Lf o_458) Ze) (Lf o_300)))))) (Nn boot_o_5 (Nn boot_o_9 (Nn o_53 (Nn o_72 (Nn o_44 (Nn o_176 (Lf o_306) Ze) (Nn o_242 (Lf o_43) Ze)) (Nn o_43 (Nn o_43 (Lf o_44) Ze) (Nn o_44 (Lf o_496) Ze))) (Nn o_91 (Nn o_126 (Nn o_194 (Lf o_43) Ze) (Nn o_258 (Lf o_480) Ze)) (Nn o_160 (Nn o_226 (Lf o_43) Ze) (Lf o_43)))) (Nn o_61 (Nn o_83 (Nn o_118 (Nn o_186 (Lf o_314) Ze) (Nn o_250 (Lf o_44) Ze)) (Nn o_44 (Nn o_44 (Lf o_440) Ze) (Nn o_282 (Lf o_504) Ze))) (Nn o_102 (Nn o_134 (Nn o_202 (Lf o_43) Ze) (Nn o_43 (Lf o_488) Ze)) (Nn o_43 (Nn o_43 (Lf o_456) Ze) (Lf o_298))))) (Nn o_45 (Nn o_57 (Nn o_76 (Nn o_114 (Nn o_83 (Lf o_408) Ze) (Nn o_44 (Lf o_468) Ze)) (Nn o_146 (Nn o_214 (Lf o_436) Ze) (Nn o_278 (Lf o_43) Ze))) (Nn o_83 (Nn o_130 (Nn o_198 (Lf o_420) Ze) (Nn o_43 (Lf o_44) Ze)) (Nn o_164 (Nn o_230 (Lf o_43) Ze) (Lf o_43)))) (Nn o_83 (Nn o_87 (Nn o_44 (Nn o_190 (Lf o_43) Ze) (Nn o_254 (Lf o_43) Ze)) (Nn o_156 (Nn o_222 (Lf o_444) Ze) (Nn o_286 (Lf o_508) Ze))) (Nn o_106 (Nn o_43 (Nn o_43 (Lf o_428) Ze) (Nn o_270 (Lf o_492) Ze)) (Nn o_43 (Nn o_43 (Lf o_44) Ze) (Lf o_44))))))) (Nn boot_o_2 (Nn boot_o_4 (Nn boot_o_8 (Nn o_83 (Nn o_44 (Nn o_43 (Nn o_43 (Lf o_305) Ze) (Nn o_43 (Lf o_463) Ze)) (Nn o_141 (Nn o_209 (Lf o_43) Ze) (Nn o_43 (Lf o_495) Ze))) (Nn o_90 (Nn o_125 (Nn o_193 (Lf o_415) Ze) (Nn o_257 (Lf o_43) Ze)) (Nn o_44 (Nn o_44 (Lf o_447) Ze) (Lf o_289)))) (Nn o_96 (Nn o_82 (Nn o_44 (Nn o_185 (Lf o_313) Ze) (Nn o_249 (Lf o_43) Ze)) (Nn o_43 (Nn o_43 (Lf o_44) Ze) (Nn o_44 (Lf o_503) Ze))) (Nn o_44 (Nn o_133 (Nn o_201 (Lf o_423) Ze) (Nn o_265 (Lf o_487) Ze)) (Nn o_167 (Nn o_233 (Lf o_43) Ze) (Lf o_43))))) (Nn o_407 (Nn o_56 (Nn o_75 (Nn o_113 (Nn o_43 (Lf o_309) Ze) (Nn o_43 (Lf o_43) Ze)) (Nn o_43 (Nn o_43 (Lf o_435) Ze) (Nn o_277 (Lf o_499) Ze))) (Nn o_82 (Nn o_44 (Nn o_44 (Lf o_43) Ze) (Nn o_261 (Lf o_43) Ze)) (Nn o_163 (Nn o_229 (Lf o_451) Ze) (Lf o_293)))) (Nn o_82 (Nn o_44 (Nn o_43 (Nn o_44 (Lf o_411) Ze) (Nn o_44 (Lf o_475) Ze)) (Nn o_155 (Nn o_221 (Lf o_443) Ze) (Nn o_285 (Lf o_507) Ze))) (Nn o_105 (Nn o_137 (Nn o_205 (Lf o_43) Ze) (Nn o_43 (Lf o_44) Ze)) (Nn o_171 (Nn o_237 (Lf o_43) Ze) (Lf o_43)))))) (Nn boot_o_6 (Nn boot_o_10 (Nn o_43 (Nn o_73 (Nn o_111 (Nn o_177 (Lf o_307) Ze) (Nn o_243 (Lf o_44) Ze)) (Nn o_44 (Nn o_44 (Lf o_433) Ze) (Nn o_275 (Lf o_43) Ze))) (Nn o_92 (Nn o_127 (Nn o_195 (Lf o_44) Ze) (Nn o_43 (Lf o_481) Ze)) (Nn o_43 (Nn o_43 (Lf o_449) Ze) (Lf o_291)))) (Nn o_62 (Nn o_84 (Nn o_119 (Nn o_187 (Lf o_409) Ze) (Nn o_251 (Lf o_473) Ze)) (Nn o_153 (Nn o_219 (Lf o_43) Ze) (Nn o_43 (Lf o_505) Ze))) (Nn o_103 (Nn o_43 (Nn o_43 (Lf o_44) Ze) (Nn o_44 (Lf o_489) Ze)) (Nn o_169 (Nn o_235 (Lf o_457) Ze) (Lf o_299))))) (Nn o_46 (Nn o_43 (Nn o_77 (Nn o_115 (Nn o_183 (Lf o_311) Ze) (Nn o_247 (Lf o_469) Ze)) (Nn o_147 (Nn o_215 (Lf o_437) Ze) (Nn o_279 (Lf o_501) Ze))) (Nn o_99 (Nn o_43 (Nn o_43 (Lf o_421) Ze) (Nn o_263 (Lf o_485) Ze)) (Nn o_43 (Nn o_43 (Lf o_44) Ze) (Lf o_44)))) (Nn o_69 (Nn o_88 (Nn o_123 (Nn o_43 (Lf o_413) Ze) (Nn o_43 (Lf o_44) Ze)) (Nn o_157 (Nn o_223 (Lf o_43) Ze) (Lf o_43))) (Nn o_107 (Nn o_139 (Nn o_207 (Lf o_429) Ze) (Nn o_271 (Lf o_43) Ze)) (Nn o_44 (Nn o_44 (Lf o_461) Ze) (Lf o_303)))))))
def t5:PT:=Nn boot_o_0 (Nn boot_o_1 (Nn o_675 (Nn boot_o_7 (Nn o_51 (Nn o_43 (Nn o_108 (Nn o_174 (Nn o_43 (Lf o_44) Ze) (Lf o_616)) (Nn o_240 (Lf o_462) (Lf o_682))) (Nn o_140 (Nn o_208 (Lf o_430) (Lf o_648)) (Nn o_272 (Lf o_494) (Lf o_714)))) (Nn o_43 (Nn o_43 (Nn o_192 (Lf o_414) (Lf o_632)) (Nn o_256 (Lf o_478) (Lf o_698))) (Nn o_43 (Nn o_43 (Lf o_44) (Lf o_44)) (Nn o_44 (Lf o_83) (Lf o_730))))) (Nn o_59 (Nn o_78 (Nn o_43 (Nn o_43 (Nn o_312 (Lf o_754) Ze) (Lf o_43)) (Nn o_43 (Lf o_470) (Lf o_690))) (Nn o_148 (Nn o_216 (Lf o_43) (Lf o_43)) (Nn o_43 (Lf o_502) (Lf o_722)))) (Nn o_43 (Nn o_132 (Nn o_200 (Lf o_422) (Lf o_640)) (Nn o_264 (Lf o_43) (Lf o_43))) (Nn o_44 (Nn o_44 (Lf o_454) (Lf o_672)) (Nn o_296 (Lf o_608) (Lf o_43)))))) (Nn o_43 (Nn o_44 (Nn o_43 (Nn o_43 (Nn o_178 (Nn o_308 (Lf o_750) Ze) (Lf o_620)) (Nn o_244 (Lf o_466) (Lf o_686))) (Nn o_144 (Nn o_212 (Lf o_43) (Lf o_43)) (Nn o_43 (Lf o_44) (Lf o_44)))) (Nn o_93 (Nn o_43 (Nn o_43 (Lf o_418) (Lf o_44)) (Nn o_44 (Lf o_482) (Lf o_702))) (Nn o_162 (Nn o_228 (Lf o_450) (Lf o_668)) (Nn o_292 (Lf o_604) (Lf o_43))))) (Nn o_63 (Nn o_43 (Nn o_120 (Nn o_43 (Nn o_83 (Lf o_758) Ze) (Lf o_43)) (Nn o_43 (Lf o_474) (Lf o_694))) (Nn o_43 (Nn o_43 (Lf o_442) (Lf o_660)) (Nn o_284 (Lf o_506) (Lf o_726)))) (Nn o_43 (Nn o_44 (Nn o_44 (Lf o_426) (Lf o_644)) (Nn o_268 (Lf o_43) (Lf o_43))) (Nn o_170 (Nn o_236 (Lf o_458) (Lf o_44)) (Nn o_300 (Lf o_612) (Lf o_742))))))) (Nn boot_o_5 (Nn boot_o_9 (Nn o_53 (Nn o_72 (Nn o_44 (Nn o_176 (Nn o_306 (Lf o_43) Ze) (Lf o_618)) (Nn o_242 (Lf o_43) (Lf o_43))) (Nn o_43 (Nn o_43 (Lf o_44) (Lf o_44)) (Nn o_44 (Lf o_496) (Lf o_716)))) (Nn o_91 (Nn o_126 (Nn o_194 (Lf o_43) (Lf o_634)) (Nn o_258 (Lf o_480) (Lf o_700))) (Nn o_160 (Nn o_226 (Lf o_43) (Lf o_43)) (Nn o_43 (Lf o_43) (Lf o_44))))) (Nn o_61 (Nn o_83 (Nn o_118 (Nn o_186 (Nn o_314 (Lf o_756) Ze) (Lf o_626)) (Nn o_250 (Lf o_44) (Lf o_44))) (Nn o_44 (Nn o_44 (Lf o_440) (Lf o_658)) (Nn o_282 (Lf o_504) (Lf o_43)))) (Nn o_102 (Nn o_134 (Nn o_202 (Lf o_43) (Lf o_43)) (Nn o_43 (Lf o_488) (Lf o_708))) (Nn o_43 (Nn o_43 (Lf o_456) (Lf o_674)) (Nn o_298 (Lf o_610) (Lf o_740)))))) (Nn o_45 (Nn o_57 (Nn o_76 (Nn o_114 (Nn o_83 (Nn o_598 (Lf o_43) Ze) (Lf o_44)) (Nn o_44 (Lf o_468) (Lf o_688))) (Nn o_146 (Nn o_214 (Lf o_436) (Lf o_654)) (Nn o_278 (Lf o_43) (Lf o_43)))) (Nn o_83 (Nn o_130 (Nn o_198 (Lf o_420) (Lf o_43)) (Nn o_43 (Lf o_44) (Lf o_44))) (Nn o_164 (Nn o_230 (Lf o_43) (Lf o_670)) (Nn o_43 (Lf o_43) (Lf o_736))))) (Nn o_83 (Nn o_87 (Nn o_44 (Nn o_190 (Lf o_43) (Lf o_630)) (Nn o_254 (Lf o_43) (Lf o_43))) (Nn o_156 (Nn o_222 (Lf o_444) (Lf o_662)) (Nn o_286 (Lf o_508) (Lf o_728)))) (Nn o_106 (Nn o_43 (Nn o_43 (Lf o_428) (Lf o_646)) (Nn o_270 (Lf o_492) (Lf o_712))) (Nn o_43 (Nn o_43 (Lf o_44) (Lf o_43)) (Nn o_44 (Lf o_43) (Lf o_744)))))))) (Nn boot_o_2 (Nn boot_o_4 (Nn boot_o_8 (Nn o_83 (Nn o_44 (Nn o_43 (Nn o_43 (Nn o_305 (Lf o_747) Ze) (Lf o_43)) (Nn o_43 (Lf o_463) (Lf o_683))) (Nn o_141 (Nn o_209 (Lf o_43) (Lf o_43)) (Nn o_43 (Lf o_495) (Lf o_715)))) (Nn o_90 (Nn o_125 (Nn o_193 (Lf o_415) (Lf o_633)) (Nn o_257 (Lf o_43) (Lf o_43))) (Nn o_44 (Nn o_44 (Lf o_447) (Lf o_665)) (Nn o_289 (Lf o_601) (Lf o_43))))) (Nn o_96 (Nn o_82 (Nn o_44 (Nn o_185 (Nn o_313 (Lf o_43) Ze) (Lf o_625)) (Nn o_249 (Lf o_43) (Lf o_43))) (Nn o_43 (Nn o_43 (Lf o_44) (Lf o_44)) (Nn o_44 (Lf o_503) (Lf o_723)))) (Nn o_44 (Nn o_133 (Nn o_201 (Lf o_423) (Lf o_641)) (Nn o_265 (Lf o_487) (Lf o_707))) (Nn o_167 (Nn o_233 (Lf o_43) (Lf o_673)) (Nn o_43 (Lf o_43) (Lf o_44)))))) (Nn o_676 (Nn o_56 (Nn o_75 (Nn o_113 (Nn o_43 (Nn o_309 (Lf o_751) Ze) (Lf o_43)) (Nn o_43 (Lf o_43) (Lf o_43))) (Nn o_43 (Nn o_43 (Lf o_435) (Lf o_653)) (Nn o_277 (Lf o_499) (Lf o_719)))) (Nn o_82 (Nn o_44 (Nn o_44 (Lf o_43) (Lf o_637)) (Nn o_261 (Lf o_43) (Lf o_43))) (Nn o_163 (Nn o_229 (Lf o_451) (Lf o_669)) (Nn o_293 (Lf o_605) (Lf o_735))))) (Nn o_82 (Nn o_44 (Nn o_43 (Nn o_44 (Lf o_411) (Lf o_44)) (Nn o_44 (Lf o_475) (Lf o_695))) (Nn o_155 (Nn o_221 (Lf o_443) (Lf o_661)) (Nn o_285 (Lf o_507) (Lf o_43)))) (Nn o_105 (Nn o_137 (Nn o_205 (Lf o_43) (Lf o_43)) (Nn o_43 (Lf o_44) (Lf o_44))) (Nn o_171 (Nn o_237 (Lf o_43) (Lf o_679)) (Nn o_43 (Lf o_613) (Lf o_743))))))) (Nn boot_o_6 (Nn boot_o_10 (Nn o_43 (Nn o_73 (Nn o_111 (Nn o_177 (Nn o_307 (Lf o_749) Ze) (Lf o_619)) (Nn o_243 (Lf o_44) (Lf o_44))) (Nn o_44 (Nn o_44 (Lf o_433) (Lf o_651)) (Nn o_275 (Lf o_43) (Lf o_43)))) (Nn o_92 (Nn o_127 (Nn o_195 (Lf o_44) (Lf o_43)) (Nn o_43 (Lf o_481) (Lf o_701))) (Nn o_43 (Nn o_43 (Lf o_449) (Lf o_667)) (Nn o_291 (Lf o_603) (Lf o_733))))) (Nn o_62 (Nn o_84 (Nn o_119 (Nn o_187 (Nn o_409 (Lf o_757) Ze) (Lf o_627)) (Nn o_251 (Lf o_473) (Lf o_693))) (Nn o_153 (Nn o_219 (Lf o_43) (Lf o_43)) (Nn o_43 (Lf o_505) (Lf o_44)))) (Nn o_103 (Nn o_43 (Nn o_43 (Lf o_44) (Lf o_44)) (Nn o_44 (Lf o_489) (Lf o_709))) (Nn o_169 (Nn o_235 (Lf o_457) (Lf o_43)) (Nn o_299 (Lf o_611) (Lf o_43)))))) (Nn o_46 (Nn o_43 (Nn o_77 (Nn o_115 (Nn o_183 (Nn o_311 (Lf o_44) Ze) (Lf o_623)) (Nn o_247 (Lf o_469) (Lf o_689))) (Nn o_147 (Nn o_215 (Lf o_437) (Lf o_655)) (Nn o_279 (Lf o_501) (Lf o_721)))) (Nn o_99 (Nn o_43 (Nn o_43 (Lf o_421) (Lf o_639)) (Nn o_263 (Lf o_485) (Lf o_705))) (Nn o_43 (Nn o_43 (Lf o_44) (Lf o_671)) (Nn o_44 (Lf o_44) (Lf o_737))))) (Nn o_69 (Nn o_88 (Nn o_123 (Nn o_43 (Lf o_413) (Lf o_43)) (Nn o_43 (Lf o_44) (Lf o_44))) (Nn o_157 (Nn o_223 (Lf o_43) (Lf o_43)) (Nn o_43 (Lf o_409) (Lf o_729)))) (Nn o_107 (Nn o_139 (Nn o_207 (Lf o_429) (Lf o_647)) (Nn o_271 (Lf o_43) (Lf o_43))) (Nn o_44 (Nn o_44 (Lf o_461) (Lf o_681)) (Nn o_303 (Lf o_44) (Lf o_43))))))))
def t6:PT:=Nn boot_o_0 (Nn boot_o_1 (Nn o_759 (Nn boot_o_7 (Nn o_51 (Nn o_43 (Nn o_108 (Nn o_174 (Nn o_43 (Lf o_44) Ze) (Lf o_616)) (Nn o_240 (Lf o_462) (Lf o_682))) (Nn o_140 (Nn o_208 (Nn o_430 (Lf o_780) Ze) (Lf o_648)) (Nn o_272 (Lf o_494) (Lf o_714)))) (Nn o_43 (Nn o_43 (Nn o_192 (Nn o_414 (Lf o_43) Ze) (Lf o_632)) (Nn o_256 (Lf o_478) (Lf o_698))) (Nn o_43 (Nn o_43 (Nn o_44 (Lf o_43) Ze) (Lf o_44)) (Nn o_44 (Lf o_83) (Lf o_730))))) (Nn o_59 (Nn o_78 (Nn o_43 (Nn o_43 (Nn o_312 (Lf o_754) Ze) (Lf o_43)) (Nn o_43 (Lf o_470) (Lf o_690))) (Nn o_148 (Nn o_216 (Nn o_43 (Lf o_788) Ze) (Lf o_43)) (Nn o_43 (Lf o_502) (Lf o_722)))) (Nn o_43 (Nn o_132 (Nn o_200 (Nn o_422 (Lf o_772) Ze) (Lf o_640)) (Nn o_264 (Lf o_43) (Lf o_43))) (Nn o_44 (Nn o_44 (Nn o_454 (Lf o_44) Ze) (Lf o_672)) (Nn o_296 (Lf o_608) (Lf o_43)))))) (Nn o_43 (Nn o_44 (Nn o_43 (Nn o_43 (Nn o_178 (Nn o_308 (Lf o_750) Ze) (Lf o_620)) (Nn o_244 (Lf o_466) (Lf o_686))) (Nn o_144 (Nn o_212 (Nn o_43 (Lf o_784) Ze) (Lf o_43)) (Nn o_43 (Lf o_44) (Lf o_44)))) (Nn o_93 (Nn o_43 (Nn o_43 (Nn o_418 (Lf o_43) Ze) (Lf o_44)) (Nn o_44 (Lf o_482) (Lf o_702))) (Nn o_162 (Nn o_228 (Nn o_450 (Lf o_800) Ze) (Lf o_668)) (Nn o_292 (Lf o_604) (Lf o_43))))) (Nn o_63 (Nn o_43 (Nn o_120 (Nn o_43 (Nn o_83 (Lf o_758) Ze) (Lf o_43)) (Nn o_43 (Lf o_474) (Lf o_694))) (Nn o_43 (Nn o_43 (Nn o_442 (Lf o_43) Ze) (Lf o_660)) (Nn o_284 (Lf o_506) (Lf o_726)))) (Nn o_43 (Nn o_44 (Nn o_44 (Nn o_426 (Lf o_44) Ze) (Lf o_644)) (Nn o_268 (Lf o_43) (Lf o_43))) (Nn o_170 (Nn o_236 (Lf o_458) (Lf o_44)) (Nn o_300 (Lf o_612) (Lf o_742))))))) (Nn boot_o_5 (Nn boot_o_9 (Nn o_53 (Nn o_72 (Nn o_44 (Nn o_176 (Nn o_306 (Lf o_43) Ze) (Lf o_618)) (Nn o_242 (Lf o_43) (Lf o_43))) (Nn o_43 (Nn o_43 (Nn o_44 (Lf o_43) Ze) (Lf o_44)) (Nn o_44 (Lf o_496) (Lf o_716)))) (Nn o_91 (Nn o_126 (Nn o_194 (Nn o_43 (Lf o_766) Ze) (Lf o_634)) (Nn o_258 (Lf o_480) (Lf o_700))) (Nn o_160 (Nn o_226 (Nn o_43 (Lf o_798) Ze) (Lf o_43)) (Nn o_43 (Lf o_43) (Lf o_44))))) (Nn o_61 (Nn o_83 (Nn o_118 (Nn o_186 (Nn o_314 (Lf o_756) Ze) (Lf o_626)) (Nn o_250 (Lf o_44) (Lf o_44))) (Nn o_44 (Nn o_44 (Nn o_440 (Lf o_44) Ze) (Lf o_658)) (Nn o_282 (Lf o_504) (Lf o_43)))) (Nn o_102 (Nn o_134 (Nn o_202 (Nn o_43 (Lf o_774) Ze) (Lf o_43)) (Nn o_43 (Lf o_488) (Lf o_708))) (Nn o_43 (Nn o_43 (Nn o_456 (Lf o_806) Ze) (Lf o_674)) (Nn o_298 (Lf o_610) (Lf o_740)))))) (Nn o_45 (Nn o_57 (Nn o_76 (Nn o_114 (Nn o_83 (Nn o_598 (Lf o_43) Ze) (Lf o_44)) (Nn o_44 (Lf o_468) (Lf o_688))) (Nn o_146 (Nn o_214 (Nn o_436 (Lf o_786) Ze) (Lf o_654)) (Nn o_278 (Lf o_43) (Lf o_43)))) (Nn o_83 (Nn o_130 (Nn o_198 (Nn o_420 (Lf o_770) Ze) (Lf o_43)) (Nn o_43 (Lf o_44) (Lf o_44))) (Nn o_164 (Nn o_230 (Nn o_43 (Lf o_802) Ze) (Lf o_670)) (Nn o_43 (Lf o_43) (Lf o_736))))) (Nn o_83 (Nn o_87 (Nn o_44 (Nn o_190 (Nn o_43 (Lf o_44) Ze) (Lf o_630)) (Nn o_254 (Lf o_43) (Lf o_43))) (Nn o_156 (Nn o_222 (Nn o_444 (Lf o_794) Ze) (Lf o_662)) (Nn o_286 (Lf o_508) (Lf o_728)))) (Nn o_106 (Nn o_43 (Nn o_43 (Nn o_428 (Lf o_43) Ze) (Lf o_646)) (Nn o_270 (Lf o_492) (Lf o_712))) (Nn o_43 (Nn o_43 (Lf o_44) (Lf o_43)) (Nn o_44 (Lf o_43) (Lf o_744)))))))) (Nn boot_o_2 (Nn boot_o_4 (Nn boot_o_8 (Nn o_83 (Nn o_44 (Nn o_43 (Nn o_43 (Nn o_305 (Lf o_747) Ze) (Lf o_43)) (Nn o_43 (Lf o_463) (Lf o_683))) (Nn o_141 (Nn o_209 (Nn o_43 (Lf o_781) Ze) (Lf o_43)) (Nn o_43 (Lf o_495) (Lf o_715)))) (Nn o_90 (Nn o_125 (Nn o_193 (Nn o_415 (Lf o_765) Ze) (Lf o_633)) (Nn o_257 (Lf o_43) (Lf o_43))) (Nn o_44 (Nn o_44 (Nn o_447 (Lf o_44) Ze) (Lf o_665)) (Nn o_289 (Lf o_601) (Lf o_43))))) (Nn o_96 (Nn o_82 (Nn o_44 (Nn o_185 (Nn o_313 (Lf o_43) Ze) (Lf o_625)) (Nn o_249 (Lf o_43) (Lf o_43))) (Nn o_43 (Nn o_43 (Nn o_44 (Lf o_43) Ze) (Lf o_44)) (Nn o_44 (Lf o_503) (Lf o_723)))) (Nn o_44 (Nn o_133 (Nn o_201 (Nn o_423 (Lf o_773) Ze) (Lf o_641)) (Nn o_265 (Lf o_487) (Lf o_707))) (Nn o_167 (Nn o_233 (Nn o_43 (Lf o_805) Ze) (Lf o_673)) (Nn o_43 (Lf o_43) (Lf o_44)))))) (Nn o_760 (Nn o_56 (Nn o_75 (Nn o_113 (Nn o_43 (Nn o_309 (Lf o_751) Ze) (Lf o_43)) (Nn o_43 (Lf o_43) (Lf o_43))) (Nn o_43 (Nn o_43 (Nn o_435 (Lf o_43) Ze) (Lf o_653)) (Nn o_277 (Lf o_499) (Lf o_719)))) (Nn o_82 (Nn o_44 (Nn o_44 (Nn o_43 (Lf o_44) Ze) (Lf o_637)) (Nn o_261 (Lf o_43) (Lf o_43))) (Nn o_163 (Nn o_229 (Nn o_451 (Lf o_801) Ze) (Lf o_669)) (Nn o_293 (Lf o_605) (Lf o_735))))) (Nn o_82 (Nn o_44 (Nn o_43 (Nn o_44 (Nn o_411 (Lf o_43) Ze) (Lf o_44)) (Nn o_44 (Lf o_475) (Lf o_695))) (Nn o_155 (Nn o_221 (Nn o_443 (Lf o_793) Ze) (Lf o_661)) (Nn o_285 (Lf o_507) (Lf o_43)))) (Nn o_105 (Nn o_137 (Nn o_205 (Nn o_43 (Lf o_777) Ze) (Lf o_43)) (Nn o_43 (Lf o_44) (Lf o_44))) (Nn o_171 (Nn o_237 (Lf o_43) (Lf o_679)) (Nn o_43 (Lf o_613) (Lf o_743))))))) (Nn boot_o_6 (Nn boot_o_10 (Nn o_43 (Nn o_73 (Nn o_111 (Nn o_177 (Nn o_307 (Lf o_749) Ze) (Lf o_619)) (Nn o_243 (Lf o_44) (Lf o_44))) (Nn o_44 (Nn o_44 (Nn o_433 (Lf o_44) Ze) (Lf o_651)) (Nn o_275 (Lf o_43) (Lf o_43)))) (Nn o_92 (Nn o_127 (Nn o_195 (Nn o_44 (Lf o_767) Ze) (Lf o_43)) (Nn o_43 (Lf o_481) (Lf o_701))) (Nn o_43 (Nn o_43 (Nn o_449 (Lf o_43) Ze) (Lf o_667)) (Nn o_291 (Lf o_603) (Lf o_733))))) (Nn o_62 (Nn o_84 (Nn o_119 (Nn o_187 (Nn o_409 (Lf o_757) Ze) (Lf o_627)) (Nn o_251 (Lf o_473) (Lf o_693))) (Nn o_153 (Nn o_219 (Nn o_43 (Lf o_791) Ze) (Lf o_43)) (Nn o_43 (Lf o_505) (Lf o_44)))) (Nn o_103 (Nn o_43 (Nn o_43 (Nn o_44 (Lf o_43) Ze) (Lf o_44)) (Nn o_44 (Lf o_489) (Lf o_709))) (Nn o_169 (Nn o_235 (Nn o_457 (Lf o_807) Ze) (Lf o_43)) (Nn o_299 (Lf o_611) (Lf o_43)))))) (Nn o_46 (Nn o_43 (Nn o_77 (Nn o_115 (Nn o_183 (Nn o_311 (Lf o_44) Ze) (Lf o_623)) (Nn o_247 (Lf o_469) (Lf o_689))) (Nn o_147 (Nn o_215 (Nn o_437 (Lf o_787) Ze) (Lf o_655)) (Nn o_279 (Lf o_501) (Lf o_721)))) (Nn o_99 (Nn o_43 (Nn o_43 (Nn o_421 (Lf o_43) Ze) (Lf o_639)) (Nn o_263 (Lf o_485) (Lf o_705))) (Nn o_43 (Nn o_43 (Nn o_44 (Lf o_43) Ze) (Lf o_671)) (Nn o_44 (Lf o_44) (Lf o_737))))) (Nn o_69 (Nn o_88 (Nn o_123 (Nn o_43 (Nn o_413 (Lf o_763) Ze) (Lf o_43)) (Nn o_43 (Lf o_44) (Lf o_44))) (Nn o_157 (Nn o_223 (Nn o_43 (Lf o_795) Ze) (Lf o_43)) (Nn o_43 (Lf o_409) (Lf o_729)))) (Nn o_107 (Nn o_139 (Nn o_207 (Nn o_429 (Lf o_779) Ze) (Lf o_647)) (Nn o_271 (Lf o_43) (Lf o_43))) (Nn o_44 (Nn o_44 (Lf o_461) (Lf o_681)) (Nn o_303 (Lf o_44) (Lf o_43))))))))
abbrev pr:Program:=(PySem.Challenge.rw_leastasked_k04_refused).row.prog
def ev:Env:={scope:=pr.main.scope,locals:=mainNs,globals:=mainNs,cells:=[],code:=Value.ref 13,frame:=some 14}
abbrev cd:Code:=.body (behindTheImports pr) ev
abbrev z0:Pos:={line:=0,col:=0,endLine:=0,endCol:=0}
def l1:List Stmt:=[top 0,top 1,top 2,top 3]
def l2:List Stmt:=[top 4,top 5,top 6,top 7,top 8,top 9,top 10,top 11,top 12,top 13,top 14,top 15,top 16,top 17]
def l3:List Stmt:=[top 18,top 19]
def l4:List Stmt:=[top 20,top 21]
def l5:List Stmt:=[top 22,top 23,top 24,top 25,top 26,top 27,top 28,top 29,top 30,top 31,top 32,top 33,top 34,top 35]
def l6:List Stmt:=[top 36,top 37,top 38,top 39,top 40,top 41,top 42]
theorem lAll:behindTheImports pr=l1++(l2++(l3++(l4++(l5++(l6++([])))))):=by kernel_rfl
set_option maxHeartbeats 0 in
theorem g0 (w:World):(fun os=>topGo treeTable pr w 11 (some (Value.ref 6)) 12 {heap:=boot_heap w.params,drawn:=boot_drawn,toks:=boot_toks,os:=os} (topStub pr))=fun os=>some ({heap:=h0 w.params,toks:=187,os:=os},{cur:=denote treeTable cd,code:=cd,pos:=z0,stack:=[topFrame z0]}):=by kernel_rfl
set_option maxHeartbeats 0 in
theorem b0 (w:World):(fun os=>segRun treeTable pr w 11 (some (Value.ref 6)) 1 1 {heap:=h0 w.params,toks:=187,os:=os} (blockOf (behindTheImports pr) ev cd z0 [topFrame z0]))=fun os=>some (Flow.next,({tree:=t0 w.params,n:=15,life:={},gens:=#[],drawn:={},toks:=187,os:=os}:SharedT).abs,cd,z0):=by kernel_rfl
set_option maxHeartbeats 0 in
theorem s1 (w:World):(fun os=>segRunT treeTable pr w 11 (some (Value.ref 6)) 1 624 {tree:=t0 w.params,n:=15,life:={},gens:=#[],drawn:={},toks:=187,os:=os} (piecesOf l1 ev cd z0 [topFrame z0]))=fun os=>some (Flow.next,{tree:=t1 w.params,n:=52,life:={},gens:=#[],drawn:={},toks:=239,os:=os},cd,⟨6,0,7,8⟩):=by kernel_rfl
set_option maxHeartbeats 0 in
theorem s2 (w:World):(fun os=>segRunT treeTable pr w 11 (some (Value.ref 6)) 1 538 {tree:=t1 w.params,n:=52,life:={},gens:=#[],drawn:={},toks:=239,os:=os} (piecesOf l2 ev cd ⟨6,0,7,8⟩ [topFrame z0]))=fun os=>some (Flow.next,{tree:=t2 w.params,n:=132,life:={},gens:=#[],drawn:={},toks:=339,os:=os},cd,⟨47,0,47,8⟩):=by kernel_rfl
set_option maxHeartbeats 0 in
theorem s3 (w:World):(fun os=>segRunT treeTable pr w 11 (some (Value.ref 6)) 1 760 {tree:=t2 w.params,n:=132,life:={},gens:=#[],drawn:={},toks:=339,os:=os} (piecesOf l3 ev cd ⟨47,0,47,8⟩ [topFrame z0]))=fun os=>some (Flow.next,{tree:=t3 w.params,n:=266,life:={},gens:=#[],drawn:={},toks:=512,os:=os},cd,⟨133,0,133,8⟩):=by kernel_rfl
set_option maxHeartbeats 0 in
theorem s4 (w:World):(fun os=>segRunT treeTable pr w 11 (some (Value.ref 6)) 1 644 {tree:=t3 w.params,n:=266,life:={},gens:=#[],drawn:={},toks:=512,os:=os} (piecesOf l4 ev cd ⟨133,0,133,8⟩ [topFrame z0]))=fun os=>some (Flow.next,{tree:=t4 w.params,n:=366,life:={},gens:=#[],drawn:={},toks:=642,os:=os},cd,⟨215,0,215,8⟩):=by kernel_rfl
set_option maxHeartbeats 0 in
theorem s5 (w:World):(fun os=>segRunT treeTable pr w 11 (some (Value.ref 6)) 1 895 {tree:=t4 w.params,n:=366,life:={},gens:=#[],drawn:={},toks:=642,os:=os} (piecesOf l5 ev cd ⟨215,0,215,8⟩ [topFrame z0]))=fun os=>some (Flow.next,{tree:=t5 w.params,n:=524,life:={},gens:=#[],drawn:={},toks:=853,os:=os},cd,⟨343,0,361,26⟩):=by kernel_rfl
set_option maxHeartbeats 0 in
theorem s6 (w:World):(fun os=>segRunT treeTable pr w 11 (some (Value.ref 6)) 1 218 {tree:=t5 w.params,n:=524,life:={},gens:=#[],drawn:={},toks:=853,os:=os} (piecesOf l6 ev cd ⟨343,0,361,26⟩ [topFrame z0]))=fun os=>some (Flow.next,{tree:=t6 w.params,n:=571,life:={},gens:=#[],drawn:={},toks:=918,os:=os},cd,⟨409,0,434,131⟩):=by kernel_rfl
def h1:Params->Heap:=fun P=>({tree:=t6 P,n:=571,life:={},gens:=#[],drawn:={},toks:=918,os:=default}:SharedT).abs.heap
set_option maxHeartbeats 0 in
theorem e0 (w:World) (os:OsState):topRun treeTable pr w 11 (some (Value.ref 6)) 2 ({tree:=t6 w.params,n:=571,life:={},gens:=#[],drawn:={},toks:=918,os:=os}:SharedT).abs (restOf [] ev cd ⟨409,0,434,131⟩ [topFrame z0])=some {heap:=h1 w.params,toks:=918,os:=os}:=piece_nil (by kernel_rfl)
theorem run1 (w:World) (os:OsState):topRun treeTable pr w 11 (some (Value.ref 6)) (624+(538+(760+(644+(895+(218+(2))))))) ({tree:=t0 w.params,n:=15,life:={},gens:=#[],drawn:={},toks:=187,os:=os}:SharedT).abs (restOf (l1++(l2++(l3++(l4++(l5++(l6++([]))))))) ev cd z0 [topFrame z0])=some {heap:=h1 w.params,toks:=918,os:=os}:=piece_app (segRun_of (congrFun (s1 w) os)) (piece_app (segRun_of (congrFun (s2 w) os)) (piece_app (segRun_of (congrFun (s3 w) os)) (piece_app (segRun_of (congrFun (s4 w) os)) (piece_app (segRun_of (congrFun (s5 w) os)) (piece_app (segRun_of (congrFun (s6 w) os)) (e0 w os))))))
theorem run0 (w:World) (os:OsState):topRun treeTable pr w 11 (some (Value.ref 6)) (12+(1+(624+(538+(760+(644+(895+(218+(2))))))))) {heap:=boot_heap w.params,drawn:=boot_drawn,toks:=boot_toks,os:=os} (topStub pr)=some {heap:=h1 w.params,toks:=918,os:=os}:=by
 refine go_top (congrFun (g0 w) os) (piece_block (congrFun (b0 w) os) ?_)
 rw [lAll]
 exact run1 w os
set_option maxHeartbeats 0 in
theorem q0 (w:World):Option.map (fun s=>(s.heap,s.gens,s.drawn,s.toks)) (fencedOpening treeTable pr w 7488)=some (boot_heap w.params,#[],boot_drawn,boot_toks):=by kernel_rfl
set_option maxHeartbeats 0 in
theorem q1 (w:World):((boot_heap w.params).isNs mainGlobals&&(#[]:Array GenState).size==0,(boot_heap w.params).objs.size,(boot_heap w.params).nsMap mainGlobals (Str.ofString "__annotations__"))=(true,11,some (Value.ref 6)):=by kernel_rfl
set_option maxHeartbeats 0 in
theorem q2 (w:World):(fun os=>staticsOk (importedModules pr.main.body) (boot_heap w.params) (h1 w.params)&&namesBound pr (h1 w.params)&&gensDone ({heap:=h1 w.params,gens:=#[],drawn:={},toks:=918,os:=os}:Shared)&&laidKept (boot_heap w.params) (h1 w.params))=fun _=>true:=by kernel_rfl
set_option maxHeartbeats 0 in
theorem q3 (w:World):(fun os=>openSeen view ["Row","Shelf"] (importedModules pr.main.body) seenX true {heap:=h1 w.params,gens:=#[],drawn:={},toks:=918,os:=os})=fun _=>openGood view ["Row","Shelf"]:=by kernel_rfl
set_option maxHeartbeats 0 in
theorem q4 (w:World):(fun os=>hook.obs {heap:=h1 w.params,gens:=#[],drawn:={},toks:=918,os:=os})=fun _=>hook.val w:=by kernel_rfl
theorem left:LeftO pr view ["Row","Shelf"] seenX hook.obs hook.val 7488:=
 LeftO.of_pieces (H₀:=fun P=>boot_heap P) (H₁:=h1) (gs₀:=#[]) (gs₁:=#[]) (d₀:=boot_drawn) (d₁:={}) (k₀:=boot_toks) (k₁:=918) (m₀:=11) (ann:=some (Value.ref 6)) (M:=12+(1+(624+(538+(760+(644+(895+(218+(2))))))))) q0 q1 run0 (by decide)
  fun w=>funext fun os=>looks_pair (congrFun (q2 w) os) (looks_pair (congrFun (q3 w) os) (congrFun (q4 w) os))
end
end Lk

namespace L2
open PySem PySem.Spec PyProof.Rows
abbrev Key:=Sum Int Str
def Lg:Key->Value->Bool
 | .inl k,v=>Value.isInt k v
 | .inr x,v=>Value.isStrOf x v
def keyH (w:World):Key->Int
 | .inl k=>hashInt k
 | .inr x=>hashStr w x
theorem Bt:∀ {k:Key} {v:Value},Lg k v=true->(∃ i t,k=Sum.inl i∧v=Value.int i t)∨(∃ x t,k=Sum.inr x∧v=Value.str x t)
 | .inl i,v,h=>by
   obtain ⟨t,e⟩:=Value.isInt_shape (k:=i) (v:=v) h
   exact .inl ⟨i,t,rfl,e⟩
 | .inr x,v,h=>by
   obtain ⟨t,e⟩:=Value.isStrOf_shape (x:=x) (v:=v) h
   exact .inr ⟨x,t,rfl,e⟩
theorem Y9 (i:Int) (t:Tok):Lg (.inl i) (.int i t)=true:=by simp [Lg,Value.isInt]
theorem Y8 (x:Str) (t:Tok):Lg (.inr x) (.str x t)=true:=by simp [Lg,Value.isStrOf]
theorem kF (a b:Int):decide ((Sum.inl a:Key)=Sum.inl b)=(a==b):=by
 by_cases e:a=b
 ·subst e; simp
 ·have h:¬ (Sum.inl a:Key)=Sum.inl b:=fun q=>e (Sum.inl.inj q)
  rw [decide_eq_false h]
  exact (beq_eq_false_iff_ne.mpr e).symm
theorem kC (a b:Str):decide ((Sum.inr a:Key)=Sum.inr b)=decide (a=b):=by
 by_cases e:a=b
 ·subst e; simp
 ·have h:¬ (Sum.inr a:Key)=Sum.inr b:=fun q=>e (Sum.inr.inj q)
  rw [decide_eq_false h,decide_eq_false e]
theorem kE (a:Int) (b:Str):decide ((Sum.inl a:Key)=Sum.inr b)=false:=decide_eq_false (fun q=>nomatch q)
theorem kD (a:Str) (b:Int):decide ((Sum.inr a:Key)=Sum.inl b)=false:=decide_eq_false (fun q=>nomatch q)
def A6 (prog:Program) (w:World):PySem.KeyKind prog w Key where
 is:=Lg
 hash:=keyH w
 inj:=fun v a b ha hb=>by
  rcases Bt ha with ⟨i,t,rfl,rfl⟩ | ⟨x,t,rfl,rfl⟩
  ·rcases Bt hb with ⟨j,u,rfl,e⟩ | ⟨y,u,rfl,e⟩
   ·injection e with e1 _; rw [e1]
   ·exact nomatch e
  ·rcases Bt hb with ⟨j,u,rfl,e⟩ | ⟨y,u,rfl,e⟩
   ·exact nomatch e
   ·injection e with e1 _; rw [e1]
 byValue:=fun k v h=>by
  rcases Bt h with ⟨i,t,rfl,rfl⟩ | ⟨x,t,rfl,rfl⟩ <;> rfl
 pyHash:=fun hv h=>by
  rcases Bt hv with ⟨i,t,rfl,rfl⟩ | ⟨x,t,rfl,rfl⟩
  ·exact wpAny_pyHash_int h
  ·exact wpAny_pyHash_str h
 eqBool:=fun hu hv h=>by
  rcases Bt hu with ⟨i,t,rfl,rfl⟩ | ⟨x,t,rfl,rfl⟩
  ·rcases Bt hv with ⟨j,u,rfl,rfl⟩ | ⟨y,u,rfl,rfl⟩
   ·rw [kF] at h; exact wpAny_eqBool_int h
   ·rw [kE] at h; exact SeqAt.EqAt.int_str i t y u _ _ _ _ h
  ·rcases Bt hv with ⟨j,u,rfl,rfl⟩ | ⟨y,u,rfl,rfl⟩
   ·rw [kD] at h; exact SeqAt.EqAt.str_int x t j u _ _ _ _ h
   ·rw [kC] at h; exact wpAny_eqBool_str h
 «strs»:=fun k x t v h=>by
  rcases Bt h with ⟨i,u,rfl,e⟩ | ⟨y,u,rfl,e⟩
  ·exact nomatch e
  ·injection e with e1 _
   subst e1
   cases v <;> rfl
theorem Ul (prog:Program) (w:World) (i:Int) (t:Tok):(A6 prog w).is (.inl i) (.int i t)=true:=Y9 i t
theorem Uk (prog:Program) (w:World) (x:Str) (t:Tok):(A6 prog w).is (.inr x) (.str x t)=true:=Y8 x t
end L2
namespace L2
open PySem PySem.Spec PyProof.Rows
inductive V where
 | non | bl (b:Bool) | int (i:Int) | str (x:Str) | byt (b:Array UInt8) | flt (b:UInt64) | ref (a:Addr) | ty (n:String)
 deriving DecidableEq
def RelV:V->Value->Prop
 | .non,u=>u=Value.none
 | .bl b,u=>u=Value.bool b
 | .int i,u=>∃ t,u=Value.int i t
 | .str x,u=>∃ t,u=Value.str x t
 | .byt b,u=>∃ t,u=Value.bytes b t
 | .flt b,u=>∃ t,u=Value.float b t
 | .ref a,u=>u=Value.ref a
 | .ty n,u=>u=Value.type n
abbrev Vals:List V->List Value->Prop:=Paired RelV
theorem Vals.length {xs:List V} {us:List Value} (r:Vals xs us):xs.length=us.length:=Paired.length r
theorem Vals.get:∀ {xs:List V} {us:List Value} {i:Nat} {x:V},Vals xs us->xs[i]?=some x->∃ u,us[i]?=some u∧RelV x u
 | _,_,_,_,.nil,e=>by simp at e
 | _,_,0,_,.cons r _,e=>by simp at e; subst e; exact ⟨_,rfl,r⟩
 | _,_,i+1,x,.cons _ t,e=>by
   obtain ⟨u,h1,h2⟩:=Vals.get (i:=i) (x:=x) t (by simpa using e)
   exact ⟨u,by simpa using h1,h2⟩
theorem Vals.set {x:V} {u:Value} (r:RelV x u):∀ {xs:List V} {us:List Value} (i:Nat),Vals xs us->Vals (xs.set i x) (us.set i u)
 | _,_,_,.nil=>.nil
 | _,_,0,.cons _ t=>.cons r t
 | _,_,i+1,.cons q t=>.cons q (Vals.set r i t)
theorem Vals.append:∀ {xs ys:List V} {us ws:List Value},Vals xs us->Vals ys ws->Vals (xs++ys) (us++ws)
 | _,_,_,_,.nil,s=>s
 | _,_,_,_,.cons r t,s=>.cons r (Vals.append t s)
theorem Vals.take:∀ {xs:List V} {us:List Value} (n:Nat),Vals xs us->Vals (xs.take n) (us.take n)
 | _,_,0,_=>.nil
 | _,_,_+1,.nil=>.nil
 | _,_,n+1,.cons r t=>.cons r (Vals.take n t)
theorem Vals.drop:∀ {xs:List V} {us:List Value} (n:Nat),Vals xs us->Vals (xs.drop n) (us.drop n)
 | _,_,0,r=>r
 | _,_,_+1,.nil=>.nil
 | _,_,n+1,.cons _ t=>Vals.drop n t
def RelO:Option V->Option Value->Prop
 | some v,some u=>RelV v u
 | none,none=>True
 | _,_=>False
def KV {κ:Type}:List (κ×V)->List (κ×Value)->Prop:=Paired fun (p:κ×V) (q:κ×Value)=>p.1=q.1∧RelV p.2 q.2
def kV:Key->V
 | .inl i=>.int i
 | .inr x=>.str x
inductive HO where
  | lst (xs:List V)
  | tup (xs:List V)
  | dK (kvs:List (Key×V)) | dT (kvs:List (List Key×V))
  | set (S:Int->Bool) (n:Nat)
  | ins (C dx:Addr) (fs:List (Str×V))
  | own (x:Addr)
  | xd (fs:List (Str×V))
  | met (f x:Addr)
  | rng (lo hi:Int)
  | frz (o:Obj) (u:HO)
  | tbl (ps:Array Value)
  | ext (φ:Heap->Prop)
abbrev Hp:=Addr->Option HO
def upd (H:Hp) (a:Addr) (o:HO):Hp:=fun b=>if b=a then some o else H b
theorem Ag {H:Hp} {a:Addr} {o:HO}:upd H a o a=some o:=by unfold upd; rw [if_pos rfl]
theorem Ae {H:Hp} {a b:Addr} {o:HO} (h:b≠a):upd H a o b=H b:=by unfold upd; rw [if_neg h]
theorem Qw {H:Hp} {a:Addr} {o u:HO}:upd (upd H a o) a u=upd H a u:=by
 funext b; unfold upd; split <;> rfl
theorem Il {H:Hp} {a b:Addr} {o u:HO} (h:H a=some o) (h':H b=some u) (d:o≠u):a≠b:=by
 intro e; subst e; rw [h] at h'; exact d (Option.some.inj h')
theorem Aj {H:Hp} {a b:Addr} {o:HO} (h:H a=some o) (h':H b=none):a≠b:=by
 intro e; subst e; rw [h] at h'; cases h'
section
variable (P:Program) (w:World)
def B6 (H:Hp) (h:Heap) (a:Addr):HO->Prop
 | .lst xs=>xs.length≤sizeLine∧∃ (its:List Value) (n:Nat),Vals xs its∧h.get? a=some {cls:=.type "list",data:=.seq its.toArray n}
 | .tup xs=>xs.length≤sizeLine∧∃ its:List Value,Vals xs its∧IsTup h a its.toArray
 | .dK kvs=>kvs.length≤sizeLine∧(a==sysModules)=false∧∃ vs,KV kvs vs∧h.DictOf (A6 P w) a vs
 | .dT kvs=>kvs.length≤sizeLine∧(a==sysModules)=false∧∃ xs:List (List Key×Addr×Value),
    Paired (fun (p:List Key×V) (q:List Key×Addr×Value)=>p.1=q.1∧H q.2.1=some (.tup (p.1.map kV))∧RelV p.2 q.2.2) kvs xs ∧
    ∃ o es ep,h.get? a=some o∧o.ExactDict∧o.data=.dict es ep∧es.toList=xs.map (entryOfKey (tupleKind (A6 P w)))∧(xs.map (·.1)).Nodup
 | .set S n=>h.SetOf (intKind P w) a S n
 | .ins C dx fs=>H dx=some (.own a)∧fs.length≤1000∧dx≠a∧h.get? a=some (PySem.W.instObj C dx) ∧
    ∃ mA,h.Ns1 dx mA∧(∀ f,RelO (fs.lookup f) (mA f))∧PySem.Within mA (fs.map (·.1))
 | .own _=>∃ o,h.get? a=some o
 | .xd fs=>∃ mA,h.Ns1 a mA∧∀ f,RelO (fs.lookup f) (mA f)
 | .rng lo hi=>∃ t u v,h.get? a=some {cls:=.type "range",data:=.fields #[.int lo t,.int hi u,.int 1 v]}
 | .frz o u=>h.get? a=some o∧B6 H h a u
 | .tbl ps=>h.get? a=some {cls:=.none,data:=.fields ps}
 | .met f x=>h.get? a=some (PySem.W.methodObj (.ref f) (.ref x))
 | .ext φ=>φ h∧(∃ o,h.get? a=some o)∧∀ h1 h2:Heap,φ h1->(∀ o,h1.get? a=some o->h2.get? a=some o)->φ h2
def HOk (H:Hp) (h:Heap):Prop:=∀ a o,H a=some o->B6 P w H h a o
end
section
variable {P:Program} {w:World} {H H':Hp} {h h':Heap} {a:Addr} {o:HO}
theorem B6.lt (x:B6 P w H h a o):a<h.objs.size:=by
 cases o with
 | lst xs=>obtain ⟨_,_,_,_,e⟩:=x; exact Heap.lt_size e
 | tup xs=>obtain ⟨_,_,_,p⟩:=x; exact p.lt
 | dK kvs=>obtain ⟨_,_,_,_,o,_,_,e,_⟩:=x; exact Heap.lt_size e
 | dT kvs=>obtain ⟨_,_,_,_,o,_,_,e,_⟩:=x; exact Heap.lt_size e
 | set S n=>obtain ⟨o,_,_,_,e,_⟩:=x; exact Heap.lt_size e
 | ins C dx fs=>obtain ⟨_,_,_,e,_⟩:=x; exact Heap.lt_size e
 | own y=>obtain ⟨_,e⟩:=x; exact Heap.lt_size e
 | xd fs=>obtain ⟨_,⟨_,_,_,e,_⟩,_⟩:=x; exact Heap.lt_size e
 | rng lo hi=>obtain ⟨_,_,_,e⟩:=x; exact Heap.lt_size e
 | frz ob u=>obtain ⟨e,_⟩:=x; exact Heap.lt_size e
 | tbl ps=>exact Heap.lt_size (show h.get? a=some _ from x)
 | met f y=>exact Heap.lt_size (show h.get? a=some _ from x)
 | ext φ=>obtain ⟨_,⟨_,e⟩,_⟩:=x; exact Heap.lt_size e
theorem Paired.mapP {α β:Type} {F G:α->β->Prop}:∀ {l₁:List α} {l₂:List β},Paired F l₁ l₂->(∀ a b,F a b->G a b)->Paired G l₁ l₂
 | _,_,.nil,_=>.nil
 | _,_,.cons r t,f=>.cons (f _ _ r) (Paired.mapP t f)
theorem B6.stay (x:B6 P w H h a o) (k:∀ b u,(b=a∨H b=some (.own a))->h.get? b=some u->h'.get? b=some u)
  (ho:∀ b,H b=some (.own a)->H' b=some (.own a)) (ht:∀ b xs,H b=some (.tup xs)->H' b=some (.tup xs)):B6 P w H' h' a o:=by
 induction o with
 | lst xs=>obtain ⟨z,its,n,r,e⟩:=x; exact ⟨z,its,n,r,k _ _ (.inl rfl) e⟩
 | tup xs=>obtain ⟨z,its,r,ob,e,c⟩:=x; exact ⟨z,its,r,ob,k _ _ (.inl rfl) e,c⟩
 | dK kvs=>obtain ⟨z,y,vs,r,ob,es,ep,e,c⟩:=x; exact ⟨z,y,vs,r,ob,es,ep,k _ _ (.inl rfl) e,c⟩
 | dT kvs=>
   obtain ⟨z,y,xs,r,ob,es,ep,e,c⟩:=x
   exact ⟨z,y,xs,Paired.mapP r fun p q z=>⟨z.1,ht _ _ z.2.1,z.2.2⟩,ob,es,ep,k _ _ (.inl rfl) e,c⟩
 | set S n=>obtain ⟨ob,es,ep,t,e,c⟩:=x; exact ⟨ob,es,ep,t,k _ _ (.inl rfl) e,c⟩
 | ins C dx fs=>
   obtain ⟨d,z,ne,e,mA,⟨od,es,ep,e2,c⟩,r⟩:=x
   exact ⟨ho _ d,z,ne,k _ _ (.inl rfl) e,mA,⟨od,es,ep,k _ _ (.inr d) e2,c⟩,r⟩
 | own y=>obtain ⟨ob,e⟩:=x; exact ⟨ob,k _ _ (.inl rfl) e⟩
 | xd fs=>obtain ⟨mA,⟨od,es,ep,e,c⟩,r⟩:=x; exact ⟨mA,⟨od,es,ep,k _ _ (.inl rfl) e,c⟩,r⟩
 | rng lo hi=>obtain ⟨t,u,v,e⟩:=x; exact ⟨t,u,v,k _ _ (.inl rfl) e⟩
 | frz ob u ih=>obtain ⟨e,q⟩:=x; exact ⟨k _ _ (.inl rfl) e,ih q⟩
 | tbl ps=>
   have e:h.get? a=some {cls:=.none,data:=.fields ps}:=x
   show h'.get? a=some {cls:=.none,data:=.fields ps}
   exact k a _ (.inl rfl) e
 | met f y=>
   have e:h.get? a=some (PySem.W.methodObj (.ref f) (.ref y)):=x
   show h'.get? a=some (PySem.W.methodObj (.ref f) (.ref y))
   exact k a _ (.inl rfl) e
 | ext φ=>obtain ⟨p,⟨o,e⟩,st⟩:=x; exact ⟨st _ _ p fun o q=>k _ _ (.inl rfl) q,⟨o,k _ _ (.inl rfl) e⟩,st⟩
theorem HOk.lt (x:HOk P w H h) (e:H a=some o):a<h.objs.size:=(x a o e).lt
theorem HOk.fresh (x:HOk P w H h) (e:h.objs.size≤a):H a=none:=by
 cases q:H a with
 | none=>rfl
 | some u=>exact absurd (Nat.lt_of_lt_of_le (x.lt q) e) (Nat.lt_irrefl _)
theorem HOk.kept (x:HOk P w H h) (k:∀ b u,h.get? b=some u->h'.get? b=some u):HOk P w H h':=fun a o e=>
 (x a o e).stay (fun b u _ q=>k b u q) (fun _ q=>q) fun _ _ q=>q
theorem HOk.laid (x:HOk P w H h) (k:∀ b u,h.get? b=some u->h'.get? b=some u) (hp:h.objs.size≤a) (new:B6 P w (upd H a o) h' a o):HOk P w (upd H a o) h':=fun b u e=>by
 have hn:=x.fresh hp
 by_cases hb:b=a
 ·subst hb; rw [Ag] at e; cases e; exact new
 ·rw [Ae hb] at e
  exact (x b u e).stay (fun c v _ q=>k c v q) (fun c q=>by rw [Ae (Aj q hn)]; exact q) fun c xs q=>by rw [Ae (Aj q hn)]; exact q
end
def Rd (H:Hp) (a:Addr) (u:HO):Prop:=H a=some u∨∃ o,H a=some (.frz o u)
theorem Rd.ok {P:Program} {w:World} {H:Hp} {h:Heap} {a:Addr} {u:HO} (r:Rd H a u) (x:HOk P w H h):B6 P w H h a u:=by
 rcases r with r | ⟨o,r⟩
 ·exact x a u r
 ·obtain ⟨_,q⟩:=x a _ r
  exact q
def Mut:Option HO->Prop
 | some (.lst _)=>True
 | some (.dK _)=>True
 | some (.dT _)=>True
 | some (.set _ _)=>True
 | some (.ins _ _ _)=>True
 | some (.ext _)=>True
 | _=>False
section
variable {P:Program} {w:World} {H:Hp} {h h':Heap} {x e:Addr} {o':HO}
theorem HOk.write (ok:HOk P w H h) (mu:Mut (H x)) (he:e=x∨H e=some (.own x)) (k:∀ b u,b≠e->h.get? b=some u->h'.get? b=some u) (heo:∃ u,h'.get? e=some u)
  (new:B6 P w (upd H x o') h' x o'):HOk P w (upd H x o') h':=fun b u q=>by
 have nown:∀ c y,H c=some (.own y)->c≠x:=fun c y r z=>by subst z; rw [r] at mu; exact mu
 have ntup:∀ c xs,H c=some (.tup xs)->c≠x:=fun c xs r z=>by subst z; rw [r] at mu; exact mu
 by_cases hb:b=x
 ·subst hb; rw [Ag] at q; cases q; exact new
 ·rw [Ae hb] at q
  by_cases hbe:b=e
  ·have q':H b=some (.own x):=by
    rcases he with z | z
    ·exact absurd (hbe.trans z) hb
    ·rw [hbe]; exact z
   rw [q] at q'; cases q'
   obtain ⟨v,hv⟩:=heo
   exact ⟨v,by rw [hbe]; exact hv⟩
  ·refine (ok b u q).stay (fun c v hc r=>k c v ?_ r) (fun c r=>by rw [Ae (nown c b r)]; exact r) fun c xs r=>by rw [Ae (ntup c xs r)]; exact r
   rcases hc with rfl | hc
   ·exact hbe
   ·rintro rfl
    rcases he with z | z
    ·exact nown c b hc z
    ·rw [hc] at z; cases z; exact hb rfl
end
structure Un (fs ex:List Addr) (H H':Hp) (h h':Heap):Prop where
 keep:∀ b o,h.get? b=some o->H b=none->b∉fs->b∉ex->h'.get? b=some o
 slot:∀ b o,h.get? b=some o->H b=none->b∈fs->b∉ex->∃ sl,h'.get? b=some {o with slots:=sl}
 free:∀ b o,h.get? b=some o->H b=none->b∉ex->H' b=none
 there:∀ b o,h.get? b=some o->b∉ex->∃ o',h'.get? b=some o'
 tups:∀ b xs,H b=some (.tup xs)->H' b=some (.tup xs)
 frzs:∀ b o u,H b=some (.frz o u)->H' b=some (.frz o u)
 tbls:∀ b ps,H b=some (.tbl ps)->∃ more,H' b=some (.tbl (ps++more))
section
variable {fs fs' ex ex':List Addr} {H H1 H2:Hp} {h h1 h2 h':Heap} {a x e:Addr} {o:HO}
theorem Un.any (u:Un fs ex H H1 h h1) {b:Addr} {ob:Obj} (q:h.get? b=some ob) (n:H b=none) (hx:b∉ex):∃ sl,h1.get? b=some {ob with slots:=sl}:=by
 by_cases hb:b∈fs
 ·exact u.slot b ob q n hb hx
 ·exact ⟨ob.slots,u.keep b ob q n hb hx⟩
theorem Un.kept (k:∀ b u,h.get? b=some u->h'.get? b=some u):Un fs ex H H h h':=
 ⟨fun b ob q _ _ _=>k b ob q,fun b ob q _ _ _=>⟨ob.slots,k b ob q⟩,fun _ _ _ n _=>n,fun b ob q _=>⟨ob,k b ob q⟩,fun _ _ q=>q,fun _ _ _ q=>q,fun _ ps q=>⟨#[],by rw [q]; simp⟩⟩
theorem Un.refl:Un fs ex H H h h:=Un.kept fun _ _ q=>q
theorem Un.laid (k:∀ b u,h.get? b=some u->h'.get? b=some u) (hp:h.objs.size≤a) (hn:H a=none):Un fs ex H (upd H a o) h h' where
 keep:=fun b u q _ _ _=>k b u q
 slot:=fun b u q _ _ _=>⟨u.slots,k b u q⟩
 free:=fun b u q n _=>by rw [Ae (Nat.ne_of_lt (Nat.lt_of_lt_of_le (Heap.lt_size q) hp))]; exact n
 there:=fun b u q _=>⟨u,k b u q⟩
 tups:=fun b xs q=>by rw [Ae (Aj q hn)]; exact q
 frzs:=fun b u xs q=>by rw [Ae (Aj q hn)]; exact q
 tbls:=fun b ps q=>⟨#[],by rw [Ae (Aj q hn),q]; simp⟩
theorem Un.write (mu:Mut (H x)) (he:e=x∨H e=some (.own x)) (k:∀ b u,b≠e->h.get? b=some u->h'.get? b=some u) (heo:∃ u,h'.get? e=some u):Un fs ex H (upd H x o) h h':=by
 have hx:∀ b,H b=none->b≠x:=fun b n z=>by subst z; rw [n] at mu; exact mu
 have hb:∀ b,H b=none->b≠e:=fun b n z=>by
  subst z
  rcases he with r | r
  ·exact hx b n r
  ·rw [n] at r; cases r
 have hm:∀ b u,H b=some u->¬ Mut (some u)->b≠x:=fun b u q nm z=>by subst z; rw [q] at mu; exact nm mu
 refine ⟨fun b u q n _ _=>k b u (hb b n) q,fun b u q n _ _=>⟨u.slots,k b u (hb b n) q⟩,fun b u q n _=>by rw [Ae (hx b n)]; exact n,fun b u q _=>?_,
  fun b xs q=>by rw [Ae (hm b _ q fun z=>z)]; exact q,fun b u xs q=>by rw [Ae (hm b _ q fun z=>z)]; exact q,fun b ps q=>⟨#[],by rw [Ae (hm b _ q fun z=>z),q]; simp⟩⟩
 by_cases hbe:b=e
 ·subst hbe; exact heo
 ·exact ⟨u,k b u hbe q⟩
theorem Un.mono (u:Un fs ex H H1 h h1) (hs:∀ b∈fs,b∈fs') (hx:∀ b∈ex,b∈ex'):Un fs' ex' H H1 h h1:=
 ⟨fun b ob q n hb he=>u.keep b ob q n (fun z=>hb (hs b z)) fun z=>he (hx b z),fun _ _ q n _ he=>u.any q n fun z=>he (hx _ z),fun b ob q n he=>u.free b ob q n fun z=>he (hx b z),fun b ob q he=>u.there b ob q fun z=>he (hx b z),u.tups,u.frzs,u.tbls⟩
end
def trk (h:Heap) (H:Hp):List Addr:=(List.range h.objs.size).filter fun a=>(H a).isSome
def hidT (h:Heap) (H:Hp):Heap:=PySem.W.hideAll h (trk h H)
theorem Zb (h:Heap) (H:Hp):(hidT h H).objs.size=h.objs.size:=PySem.W.hideAll_size _ _
theorem dL {h:Heap} {H:Hp} {b:Addr} {o:Obj} (e:h.get? b=some o) (n:H b=none):(hidT h H).get? b=some o:=
 PySem.W.hideAll_get _ e fun hm=>by
  have q:(H b).isSome=true:=(List.mem_filter.mp hm).2
  rw [n] at q; simp at q
theorem gU {h:Heap} {H:Hp} {b:Addr} {o:Obj} (e:(hidT h H).get? b=some o):h.get? b=some o∧H b=none:=by
 have e':h.get? b=some o:=PySem.W.of_hideAll (trk h H) e
 refine ⟨e',?_⟩
 cases q:H b with
 | none=>rfl
 | some x=>
   have hm:b∈trk h H:=List.mem_filter.mpr ⟨List.mem_range.mpr (Heap.lt_size e'),by simp [q]⟩
   have z:(hidT h H).get? b=none:=PySem.W.hideAll_none (trk h H) hm
   rw [z] at e; cases e
end L2
namespace L2
open PySem PySem.Spec PyProof.Rows
structure Mod (K:PySem.W.Frag) (mg:Str->Option Value) (base:Heap):Prop where
 kin:K.In base
 glob:base.Ns mainGlobals mg
 blt:∃ mb,base.Ns builtinsNs mb∧∀ x:Str,x≠"__name__"->mb x=bootBuiltins x
 nolimit:base.NoLimit
structure Cx where
 prog:Program
 w:World
 K:PySem.W.Frag
 mg:Str->Option Value
 base:Heap
 A:Around
 N:List Str
 s₀:Shared
 H₀:Hp
 env:Env
 outer:List Env
 stack:List Env
 ex:List Addr
 fn:Str->Bool
 calm:Bool
 pn:List (Addr×Obj)
 xe:Value->Shared->Prop
def frs (l:List Env):List Addr:=l.filterMap (·.frame)
abbrev Cx.fs (X:Cx):List Addr:=frs X.outer
def Vis (sc:Scope) (x:Str):Prop:=sc.names.lookup x=some .local∨sc.names.lookup x=some .cell∨sc.names.lookup x=some .free
def Loc (sc:Scope) (x:Str):Prop:=sc.names.lookup x=some .local∨sc.names.lookup x=some .cell
def Look (env:Env) (h:Heap) (m:Str->Option Value) (x:Str) (u:Value):Prop:=
 (env.kindOf x=some .local∧m x=some u)∨((env.kindOf x=some .cell∨env.kindOf x=some .free)∧∃ c,env.cells.lookup x=some c∧h.IsCell c (some u))
structure Cx.Ok (X:Cx):Prop where
 mod:Mod X.K X.mg X.base
 kind:X.env.scope.kind=.function
 glob:X.env.globals=mainGlobals
 blt:X.env.builtins=builtinsNs
 above:X.s₀.heap.objs.size≤X.env.locals
 inj:∀ x y c,X.env.cells.lookup x=some c->X.env.cells.lookup y=some c->x=y
 has:∀ x,(X.env.kindOf x=some .cell∨X.env.kindOf x=some .free)->∃ c,X.env.cells.lookup x=some c
 cab:∀ x c,X.fn x=true->X.env.cells.lookup x=some c->X.s₀.heap.objs.size≤c
 hd:X.calm=true->X.A.handled=none
 frames:X.A.frames=some X.stack
 stk:X.stack=X.outer∨(X.stack=X.env::X.outer∧X.env.frame=some X.env.locals)
 exf:∀ b∈X.ex,b≠X.env.locals∧∀ x c,X.env.cells.lookup x=some c->c≠b
 bs:∀ b o,X.base.get? b=some o->X.s₀.heap.get? b=some o∧X.H₀ b=none
 bsz:X.base.objs.size≤X.s₀.heap.objs.size
 noex:∀ b o,X.base.get? b=some o->b∉X.ex
 exfs:∀ b∈X.ex,b∉X.fs
 funs:X.s₀.heap.FunFrames X.base X.outer
 frf:∀ b∈X.fs,X.H₀ b=none
structure Inv (X:Cx) (pins:List (Addr×Obj)) (σ:List (Option V)) (H:Hp) (s:Shared):Prop where
 ok:X.Ok
 os:s.os=X.s₀.os
 bare:AllBare s.gens
 base:Un X.fs X.ex X.H₀ H X.s₀.heap s.heap
 loc:∃ m,s.heap.Ns X.env.locals m∧∀ (i:Nat) (x:Str) (v:V),X.N[i]?=some x->σ[i]?=some (some v)->Vis X.env.scope x->∃ u,RelV v u∧Look X.env s.heap m x u
 cell:∀ x c,X.env.cells.lookup x=some c->∃ v,s.heap.IsCell c v
 free:H X.env.locals=none
 freeC:∀ x c,X.env.cells.lookup x=some c->H c=none
 pin:∀ p∈X.pn++pins,s.heap.get? p.1=some p.2∧H p.1=none∧p.1≠X.env.locals∧p.1∉X.fs∧∀ v,p.2.data≠.cell v
 hok:HOk X.prog X.w H s.heap
 len:σ.length=X.N.length
section
variable {X:Cx} {pins:List (Addr×Obj)} {σ:List (Option V)} {H H':Hp} {s:Shared} {h':Heap}
theorem Cx.Ok.nofr (ok:X.Ok) {b:Addr} {o:Obj} (e:X.base.get? b=some o):b∉X.fs:=fun hb=>by
 have:=(ok.funs.mem hb).1
 rw [e] at this; cases this
theorem Inv.bs (I:Inv X pins σ H s):∀ b o,X.base.get? b=some o->s.heap.get? b=some o∧H b=none:=fun b o e=>
 ⟨I.base.keep b o (I.ok.bs b o e).1 (I.ok.bs b o e).2 (I.ok.nofr e) (I.ok.noex b o e),I.base.free b o (I.ok.bs b o e).1 (I.ok.bs b o e).2 (I.ok.noex b o e)⟩
theorem Inv.bk (I:Inv X pins σ H s):∀ b o,X.base.get? b=some o->s.heap.get? b=some o:=fun b o e=>(I.bs b o e).1
theorem Inv.mod (I:Inv X pins σ H s):Mod X.K X.mg X.base:=I.ok.mod
theorem Inv.kIn (I:Inv X pins σ H s):X.K.In s.heap:=I.ok.mod.kin.keeps I.bk
theorem Inv.lt (I:Inv X pins σ H s):X.env.locals<s.heap.objs.size:=let ⟨_,hn,_⟩:=I.loc; hn.lt
theorem Inv.sz (I:Inv X pins σ H s):X.s₀.heap.objs.size≤s.heap.objs.size:=Nat.le_trans I.ok.above (Nat.le_of_lt I.lt)
theorem Inv.nofs (I:Inv X pins σ H s) {a:Addr} (h:s.heap.objs.size≤a):a∉X.fs:=fun hb=>by
 obtain ⟨_,o,ho,_⟩:=I.ok.funs.mem hb
 exact absurd (Nat.lt_of_lt_of_le (Heap.lt_size ho) (Nat.le_trans I.sz h)) (Nat.lt_irrefl _)
theorem Inv.cne (I:Inv X pins σ H s):∀ x c,X.env.cells.lookup x=some c->c≠X.env.locals:=fun x c e z=>by
 obtain ⟨v,o,ho,hd⟩:=I.cell x c e
 obtain ⟨m,⟨o',es,ep,ho',hd',_⟩,_⟩:=I.loc
 rw [z,ho'] at ho; cases ho; rw [hd'] at hd; cases hd
theorem Inv.funs (I:Inv X pins σ H s):s.heap.FunFrames X.base X.outer:=by
 have all:∀ (l:List Env),(∀ b∈frs l,b∈X.fs)->X.s₀.heap.FunFrames X.base l->s.heap.FunFrames X.base l:=by
  intro l
  induction l with
  | nil=>intro _ _; trivial
  | cons env r ih=>
    intro hs hl
    obtain ⟨hk,⟨L,o,hf,hn,ho,hd⟩,hr⟩:=hl
    have hL:L∈X.fs:=hs L (by unfold frs; rw [List.filterMap_cons,hf]; exact List.mem_cons_self)
    obtain ⟨sl,e⟩:=I.base.slot L o ho (I.ok.frf L hL) hL fun z=>I.ok.exfs L z hL
    exact ⟨hk,⟨L,_,hf,hn,e,hd⟩,ih (fun b hb=>hs b (by unfold frs; rw [List.filterMap_cons,hf]; exact List.mem_cons_of_mem _ hb)) hr⟩
 exact all X.outer (fun _ hb=>hb) I.ok.funs
theorem Inv.stack (I:Inv X pins σ H s):s.heap.FunFrames X.base X.stack:=by
 rcases I.ok.stk with e | ⟨e,hf⟩
 ·rw [e]; exact I.funs
 ·rw [e]
  obtain ⟨m,hn,_⟩:=I.loc
  refine .cons (by rw [I.ok.kind]; decide) hf hn ?_ I.funs
  exact Heap.get?_none_of_le (Nat.le_trans I.ok.bsz I.ok.above)
theorem Inv.stkSub (I:Inv X pins σ H s):∀ b∈frs X.stack,b∈X.env.locals::X.fs:=fun b hb=>by
 rcases I.ok.stk with e | ⟨e,hf⟩
 ·rw [e] at hb; exact List.mem_cons_of_mem _ hb
 ·rw [e] at hb
  unfold frs at hb
  rw [List.filterMap_cons,hf] at hb
  exact hb
theorem Inv.stkFree (I:Inv X pins σ H s):∀ b∈frs X.stack,H b=none:=fun b hb=>by
 rcases List.mem_cons.mp (I.stkSub b hb) with e | hb
 ·rw [e]; exact I.free
 ·obtain ⟨_,o,ho,_⟩:=I.ok.funs.mem hb
  exact I.base.free b o ho (I.ok.frf b hb) fun z=>I.ok.exfs b z hb
theorem Inv.step {g':Array GenState} {t':Nat} {d':Drawn} {ch:List Addr} (I:Inv X pins σ H s)
  (hch:∀ b∈ch,(b∈X.ex∨X.s₀.heap.objs.size≤b)∧b≠X.env.locals∧(∀ x c,X.env.cells.lookup x=some c->c≠b)∧∀ p∈X.pn++pins,p.1≠b)
  (keep:∀ b o,b≠X.env.locals->b∉X.fs->b∉ch->s.heap.get? b=some o->H b=none->h'.get? b=some o)
  (slot:∀ b o,b≠X.env.locals->b∈X.fs->b∉ch->s.heap.get? b=some o->H b=none->∃ sl,h'.get? b=some {o with slots:=sl}) (free:∀ b o,b∉ch->s.heap.get? b=some o->H b=none->H' b=none)
  (there:∀ b o,b∉ch->s.heap.get? b=some o->∃ o',h'.get? b=some o')
  (tups:∀ b xs,H b=some (.tup xs)->H' b=some (.tup xs)) (frzs:∀ b o u,H b=some (.frz o u)->H' b=some (.frz o u)) (tbls:∀ b ps,H b=some (.tbl ps)->∃ more,H' b=some (.tbl (ps++more)))
  (ns:∀ m,s.heap.Ns X.env.locals m->h'.Ns X.env.locals m) (hok:HOk X.prog X.w H' h') (hg:AllBare g') :
  Inv X pins σ H' {s with heap:=h',gens:=g',drawn:=d',toks:=t'}:=by
 have neL:∀ b o,X.s₀.heap.get? b=some o->b≠X.env.locals:=fun b o e=>Nat.ne_of_lt (Nat.lt_of_lt_of_le (Heap.lt_size e) I.ok.above)
 have neC:∀ b o,X.s₀.heap.get? b=some o->b∉X.ex->b∉ch:=fun b o e hx hb=>by
  rcases (hch b hb).1 with z | z
  ·exact hx z
  ·exact absurd (Nat.lt_of_lt_of_le (Heap.lt_size e) z) (Nat.lt_irrefl _)
 have cellK:∀ x c,X.env.cells.lookup x=some c->∀ v,s.heap.IsCell c v->h'.IsCell c v:=fun x c e v ⟨o,ho,hd⟩=>by
  have nch:c∉ch:=fun z=>(hch c z).2.2.1 x c e rfl
  by_cases hc:c∈X.fs
  ·obtain ⟨sl,q⟩:=slot c o (I.cne x c e) hc nch ho (I.freeC x c e)
   exact ⟨_,q,hd⟩
  ·exact ⟨o,keep c o (I.cne x c e) hc nch ho (I.freeC x c e),hd⟩
 refine ⟨I.ok,I.os,hg,⟨fun b o e n hb hx=>?_,fun b o e n hb hx=>?_,fun b o e n hx=>?_,fun b o e hx=>?_,fun b xs e=>tups b xs (I.base.tups b xs e),fun b o xs e=>frzs b o xs (I.base.frzs b o xs e),fun b ps e=>?_⟩,?_,fun x c e=>?_,?_,fun x c e=>?_,fun p hp=>?_,hok,I.len⟩
 ·exact keep b o (neL b o e) hb (neC b o e hx) (I.base.keep b o e n hb hx) (I.base.free b o e n hx)
 ·obtain ⟨sl,e1⟩:=I.base.slot b o e n hb hx
  obtain ⟨sl',e2⟩:=slot b _ (neL b o e) hb (neC b o e hx) e1 (I.base.free b o e n hx)
  exact ⟨sl',e2⟩
 ·obtain ⟨o',e1⟩:=I.base.there b o e hx
  exact free b o' (neC b o e hx) e1 (I.base.free b o e n hx)
 ·obtain ⟨o',e1⟩:=I.base.there b o e hx
  exact there b o' (neC b o e hx) e1
 ·obtain ⟨m1,e1⟩:=I.base.tbls b ps e
  obtain ⟨m2,e2⟩:=tbls b _ e1
  exact ⟨m1++m2,by rw [e2,Array.append_assoc]⟩
 ·obtain ⟨m,hn,hl⟩:=I.loc
  refine ⟨m,ns m hn,fun i x v e1 e2 e3=>?_⟩
  obtain ⟨u,r,l⟩:=hl i x v e1 e2 e3
  refine ⟨u,r,?_⟩
  rcases l with l | ⟨k,c,e,z⟩
  ·exact .inl l
  ·exact .inr ⟨k,c,e,cellK x c e _ z⟩
 ·obtain ⟨v,z⟩:=I.cell x c e
  exact ⟨v,cellK x c e v z⟩
 ·obtain ⟨m,⟨o,_,_,ho,_⟩,_⟩:=I.loc
  exact free _ o (fun z=>(hch _ z).2.1 rfl) ho I.free
 ·obtain ⟨v,o,ho,hd⟩:=I.cell x c e
  exact free c o (fun z=>(hch c z).2.2.1 x c e rfl) ho (I.freeC x c e)
 ·obtain ⟨e,n,ne,nf,d⟩:=I.pin p hp
  have nch:p.1∉ch:=fun z=>(hch p.1 z).2.2.2 p hp rfl
  exact ⟨keep p.1 p.2 ne nf nch e n,free p.1 p.2 nch e n,ne,nf,d⟩
theorem Inv.un {t':Nat} (I:Inv X pins σ H s) (u:Un X.fs [] H H' s.heap h') (hok:HOk X.prog X.w H' h'):Inv X pins σ H' {s with heap:=h',toks:=t'}:=by
 obtain ⟨m,⟨o,es,ep,ho,r⟩,_⟩:=id I.loc
 obtain ⟨sl,hL⟩:=u.any ho I.free (by simp)
 exact I.step (g':=s.gens) (d':=s.drawn) (ch:=[]) (fun _ z=>nomatch z) (fun b o _ hb _ e n=>u.keep b o e n hb (by simp)) (fun b o _ hb _ e n=>u.slot b o e n hb (by simp)) (fun b o _ e n=>u.free b o e n (by simp)) (fun b o _ e=>u.there b o e (by simp)) u.tups u.frzs u.tbls (fun m' hm=>by
  obtain ⟨o',es',ep',ho',r'⟩:=hm
  rw [ho] at ho'; cases ho'
  exact ⟨_,es',ep',hL,r'⟩) hok I.bare
theorem Inv.call {g':Array GenState} {t':Nat} {d':Drawn} {ch:List Addr} (I:Inv X pins σ H s) (u:Un (frs X.stack) ch H H' s.heap h') (hok:HOk X.prog X.w H' h') (hg:AllBare g')
  (hch:∀ b∈ch,(b∈X.ex∨X.s₀.heap.objs.size≤b)∧b≠X.env.locals∧(∀ x c,X.env.cells.lookup x=some c->c≠b)∧∀ p∈X.pn++pins,p.1≠b) :
  Inv X pins σ H' {s with heap:=h',gens:=g',drawn:=d',toks:=t'}:=by
 obtain ⟨m,⟨o,es,ep,ho,r⟩,_⟩:=id I.loc
 obtain ⟨sl,hL⟩:=u.any ho I.free fun z=>(hch _ z).2.1 rfl
 exact I.step (ch:=ch) hch (fun b o hL hb hc e n=>u.keep b o e n (fun z=>(List.mem_cons.mp (I.stkSub b z)).elim hL hb) hc) (fun b o _ _ hc e n=>u.any e n hc) (fun b o hc e n=>u.free b o e n hc) (fun b o hc e=>u.there b o e hc) u.tups u.frzs u.tbls (fun m' hm=>by
  obtain ⟨o',es',ep',ho',r'⟩:=hm
  rw [ho] at ho'; cases ho'
  exact ⟨_,es',ep',hL,r'⟩) hok hg
theorem Inv.turned {t':Nat} {it:Addr} (I:Inv X pins σ H s) (k:∀ b o,b≠it->s.heap.get? b=some o->h'.get? b=some o) (hn:H it=none) (hL:it≠X.env.locals)
  (h1:it∈X.ex∨X.s₀.heap.objs.size≤it) (h2:∀ x c,X.env.cells.lookup x=some c->c≠it) (h3:∀ p∈X.pn++pins,p.1≠it):Inv X pins σ H {s with heap:=h',toks:=t'}:=by
 have nit:∀ b u,H b=some u->b≠it:=fun b u e z=>by rw [z,hn] at e; cases e
 refine I.step (g':=s.gens) (d':=s.drawn) (ch:=[it]) (fun b hb=>?_) (fun b o _ _ hc e _=>k b o (fun z=>hc (by simp [z])) e) (fun b o _ _ hc e _=>⟨o.slots,k b o (fun z=>hc (by simp [z])) e⟩) (fun _ _ _ _ n=>n)
  (fun b o hc e=>⟨o,k b o (fun z=>hc (by simp [z])) e⟩) (fun _ _ e=>e) (fun _ _ _ e=>e) (fun b ps e=>⟨#[],by rw [e]; simp⟩) (fun m hm=>?_) (fun b u e=>?_) I.bare
 ·have e:b=it:=by simpa using hb
  subst e
  exact ⟨h1,hL,h2,h3⟩
 ·obtain ⟨o,es,ep,ho,r⟩:=hm
  exact ⟨o,es,ep,k _ o (Ne.symm hL) ho,r⟩
 ·refine (I.hok b u e).stay (fun c v hc q=>k c v ?_ q) (fun _ q=>q) fun _ _ q=>q
  rcases hc with z | z
  ·rw [z]; exact nit b u e
  ·exact nit c _ z
theorem Inv.tok (I:Inv X pins σ H s) (t:Nat):Inv X pins σ H {s with toks:=t}:=I.un (h':=s.heap) (t':=t) Un.refl I.hok
theorem Inv.kept {t':Nat} (I:Inv X pins σ H s) (k:∀ b u,s.heap.get? b=some u->h'.get? b=some u):Inv X pins σ H {s with heap:=h',toks:=t'}:=I.un (Un.kept k) (I.hok.kept k)
theorem Inv.laid {a:Addr} {o:HO} {t':Nat} (I:Inv X pins σ H s) (k:∀ b u,s.heap.get? b=some u->h'.get? b=some u) (hp:s.heap.objs.size≤a) (new:B6 X.prog X.w (upd H a o) h' a o) :
  Inv X pins σ (upd H a o) {s with heap:=h',toks:=t'}:=I.un (Un.laid k hp (I.hok.fresh hp)) (I.hok.laid k hp new)
theorem Inv.write {x e:Addr} {o:HO} {t':Nat} (I:Inv X pins σ H s) (mu:Mut (H x)) (he:e=x∨H e=some (.own x)) (k:∀ b u,b≠e->s.heap.get? b=some u->h'.get? b=some u) (heo:∃ u,h'.get? e=some u)
  (new:B6 X.prog X.w (upd H x o) h' x o):Inv X pins σ (upd H x o) {s with heap:=h',toks:=t'}:=I.un (Un.write mu he k heo) (I.hok.write mu he k heo new)
theorem Inv.pins_of {pins':List (Addr×Obj)} (I:Inv X pins σ H s) (h:∀ p∈pins',s.heap.get? p.1=some p.2∧H p.1=none∧p.1≠X.env.locals∧p.1∉X.fs∧∀ v,p.2.data≠.cell v):Inv X pins' σ H s:=
 ⟨I.ok,I.os,I.bare,I.base,I.loc,I.cell,I.free,I.freeC,fun p hp=>(List.mem_append.mp hp).elim (fun z=>I.pin p (List.mem_append_left _ z)) (h p),I.hok,I.len⟩
theorem Uj {N:List Str} (hN:N.Nodup) {i j:Nat} {x:Str} (a:N[i]?=some x) (b:N[j]?=some x):i=j:=by
 obtain ⟨h1,e1⟩:=List.getElem?_eq_some_iff.mp a
 obtain ⟨h2,e2⟩:=List.getElem?_eq_some_iff.mp b
 exact (List.getElem_inj hN).mp (e1.trans e2.symm)
theorem X7 {M:Model} {A:Around} {E:Value->Shared->Prop} {i:Nat} {x:Str} {v:V} {u:Value} {Q:Unit->Shared->Prop} (I:Inv X pins σ H s) (hN:X.N.Nodup) (hi:X.N[i]?=some x) (hx:Loc X.env.scope x) (r:RelV v u)
  (h:∀ s',Inv X pins (σ.set i (some v)) H s'->(∃ a,Heap.SameBut a s.heap s'.heap∧(a=X.env.locals∨X.env.cells.lookup x=some a))->Q () s') (hf:X.fn x=true∨X.env.scope.names.lookup x=some .local:=by first | exact .inl rfl | exact .inr rfl | assumption):wpAny M A (storeName X.env x u) Q E s:=by
 obtain ⟨m,hn,hl⟩:=id I.loc
 have hcls:(X.env.scope.kind==.class||(X.env.scope.kind==.module&&X.env.locals != X.env.globals))=false:=by rw [I.ok.kind]; rfl
 have hiσ:i<σ.length:=by rw [I.len]; exact (List.getElem?_eq_some_iff.mp hi).1
 have cne:=I.cne
 have tracked:∀ {a:Addr} {h':Heap},(∃ o,s.heap.get? a=some o∧H a=none)->Heap.SameBut a s.heap h'->HOk X.prog X.w H h':=fun {a h'} ha hs b ob e=>by
  obtain ⟨_,_,hfree⟩:=ha
  refine (I.hok b ob e).stay (fun c w' hc q=>(hs.2 c ?_).trans q) (fun _ q=>q) fun _ _ q=>q
  rintro rfl
  rcases hc with rfl | hc
  ·rw [hfree] at e; cases e
  ·rw [hfree] at hc; cases hc
 rcases hx with hk | hk
 ·refine wpAny_storeName_local hk hn (fun h' hn' hs=>?_) hcls
  obtain ⟨oL,_,_,hoL,_⟩:=id hn
  refine h _ ⟨I.ok,I.os,I.bare,⟨fun b o e n hb hx=>?_,fun b o e n hb hx=>?_,I.base.free,fun b o e hx=>?_,I.base.tups,I.base.frzs,I.base.tbls⟩,⟨_,hn',fun j y v' e1 e2 e3=>?_⟩,fun y c e=>?_,I.free,I.freeC,fun p hp=>?_,tracked ⟨oL,hoL,I.free⟩ hs,by simpa using I.len⟩ ⟨_,hs,.inl rfl⟩
  ·exact (hs.2 b (Nat.ne_of_lt (Nat.lt_of_lt_of_le (Heap.lt_size e) I.ok.above))).trans (I.base.keep b o e n hb hx)
  ·obtain ⟨sl,e1⟩:=I.base.slot b o e n hb hx
   exact ⟨sl,(hs.2 b (Nat.ne_of_lt (Nat.lt_of_lt_of_le (Heap.lt_size e) I.ok.above))).trans e1⟩
  ·obtain ⟨o',e1⟩:=I.base.there b o e hx
   exact ⟨o',(hs.2 b (Nat.ne_of_lt (Nat.lt_of_lt_of_le (Heap.lt_size e) I.ok.above))).trans e1⟩
  ·by_cases hj:j=i
   ·subst hj
    rw [hi] at e1; cases e1
    rw [List.getElem?_set_self hiσ] at e2
    cases e2
    exact ⟨u,r,.inl ⟨hk,by simp⟩⟩
   ·rw [List.getElem?_set_ne (Ne.symm hj)] at e2
    obtain ⟨u',r',q⟩:=hl j y v' e1 e2 e3
    refine ⟨u',r',?_⟩
    rcases q with ⟨k,e⟩ | ⟨k,c,e,z⟩
    ·refine .inl ⟨k,?_⟩
     have:y≠x:=fun e=>hj (Uj hN e1 (e ▸ hi))
     simp [this,e]
    ·exact .inr ⟨k,c,e,z.sameBut hs (cne y c e)⟩
  ·obtain ⟨w',z⟩:=I.cell y c e
   exact ⟨w',z.sameBut hs (cne y c e)⟩
  ·obtain ⟨e,n,ne,nf,d⟩:=I.pin p hp
   exact ⟨(hs.2 p.1 ne).trans e,n,ne,nf,d⟩
 ·have hfn:X.fn x=true:=by
   rcases hf with z | z
   ·exact z
   ·rw [z] at hk; cases hk
  obtain ⟨c,hc⟩:=I.ok.has x (.inl hk)
  obtain ⟨w',z⟩:=I.cell x c hc
  refine wpAny_storeName_cell I.ok.kind hk hc z (fun h' hc' hs=>?_)
  obtain ⟨oc,hoc,hocd⟩:=id z
  refine h {s with heap:=h'} ⟨I.ok,I.os,I.bare,⟨fun b o e n hb hx=>?_,fun b o e n hb hx=>?_,I.base.free,fun b o e hx=>?_,I.base.tups,I.base.frzs,I.base.tbls⟩,⟨m,hn.sameBut hs (Ne.symm (cne x c hc)),fun j y v' e1 e2 e3=>?_⟩,fun y c' e=>?_,I.free,I.freeC,fun p hp=>?_,tracked ⟨oc,hoc,I.freeC x c hc⟩ hs,by simpa using I.len⟩ ⟨c,hs,.inr hc⟩
  ·exact (hs.2 b (Nat.ne_of_lt (Nat.lt_of_lt_of_le (Heap.lt_size e) (I.ok.cab x c hfn hc)))).trans (I.base.keep b o e n hb hx)
  ·obtain ⟨sl,e1⟩:=I.base.slot b o e n hb hx
   exact ⟨sl,(hs.2 b (Nat.ne_of_lt (Nat.lt_of_lt_of_le (Heap.lt_size e) (I.ok.cab x c hfn hc)))).trans e1⟩
  ·obtain ⟨o',e1⟩:=I.base.there b o e hx
   exact ⟨o',(hs.2 b (Nat.ne_of_lt (Nat.lt_of_lt_of_le (Heap.lt_size e) (I.ok.cab x c hfn hc)))).trans e1⟩
  ·by_cases hj:j=i
   ·subst hj
    rw [hi] at e1; cases e1
    rw [List.getElem?_set_self hiσ] at e2
    cases e2
    exact ⟨u,r,.inr ⟨.inl hk,c,hc,hc'⟩⟩
   ·rw [List.getElem?_set_ne (Ne.symm hj)] at e2
    obtain ⟨u',r',q⟩:=hl j y v' e1 e2 e3
    refine ⟨u',r',?_⟩
    rcases q with q | ⟨k,c',e,z'⟩
    ·exact .inl q
    ·refine .inr ⟨k,c',e,z'.sameBut hs ?_⟩
     rintro rfl
     exact hj (Uj hN e1 (I.ok.inj _ _ _ e hc ▸ hi))
  ·by_cases hcc:c'=c
   ·subst hcc; exact ⟨_,hc'⟩
   ·obtain ⟨w2,z2⟩:=I.cell y c' e
    exact ⟨w2,z2.sameBut hs hcc⟩
  ·obtain ⟨e,n,ne,nf,d⟩:=I.pin p hp
   refine ⟨(hs.2 p.1 ?_).trans e,n,ne,nf,d⟩
   intro q
   rw [q,hoc] at e
   have q':oc=p.2:=Option.some.inj e
   exact d w' (by rw [← q']; exact hocd)
theorem Jl {M:Model} {A:Around} {E:Value->Shared->Prop} {i:Nat} {x:Str} {v:V} {u:Value} {Q:Unit->Shared->Prop} (I:Inv X pins σ H s) (hN:X.N.Nodup) (hi:X.N[i]?=some x) (hx:Loc X.env.scope x) (r:RelV v u)
  (h:∀ s',Inv X pins (σ.set i (some v)) H s'->Q () s') (hf:X.fn x=true∨X.env.scope.names.lookup x=some .local:=by first | exact .inl rfl | exact .inr rfl | assumption):wpAny M A (storeName X.env x u) Q E s:=
 X7 I hN hi hx r (fun s' I' _=>h s' I') hf
theorem Inv.call' {s':Shared} {ch:List Addr} (I:Inv X pins σ H s) (ho:s'.os=s.os) (u:Un (frs X.stack) ch H H' s.heap s'.heap) (hok:HOk X.prog X.w H' s'.heap) (hg:AllBare s'.gens)
  (hch:∀ b∈ch,(b∈X.ex∨X.s₀.heap.objs.size≤b)∧b≠X.env.locals∧(∀ x c,X.env.cells.lookup x=some c->c≠b)∧∀ p∈X.pn++pins,p.1≠b):Inv X pins σ H' s':=by
 obtain ⟨h',g',d',t',o'⟩:=s'
 have e:o'=s.os:=ho
 subst e
 exact I.call (g':=g') (t':=t') (d':=d') u hok hg hch
end
abbrev XK:=Value->Option Addr->Hp->Prop
abbrev St:=List (Option V)
abbrev VK:=V->Hp->Prop
abbrev TE:=St->Hp->VK->Prop
abbrev TT:=St->Hp->(Bool->Hp->Prop)->Prop
abbrev TA:=St->Hp->(List V->Hp->Prop)->Prop
structure Ends where
 nx:St->Hp->Prop
 rt:VK
 bk:St->Hp->Prop:=fun _ _=>False
 ct:St->Hp->Prop:=fun _ _=>False
abbrev TS:=Ends->St->Hp->Prop
def EP (X:Cx) (pins:List (Addr×Obj)) (σ:St) (Q:VK) (u:Value) (s':Shared):Prop:=∃ v H',Inv X pins σ H' s'∧RelV v u∧Q v H'
def TP (X:Cx) (pins:List (Addr×Obj)) (σ:St) (Q:Bool->Hp->Prop) (b:Bool) (s':Shared):Prop:=∃ H',Inv X pins σ H' s'∧Q b H'
def AP (X:Cx) (pins:List (Addr×Obj)) (σ:St) (Q:List V->Hp->Prop) (us:List Value) (s':Shared):Prop:=∃ vs H',Inv X pins σ H' s'∧Vals vs us∧Q vs H'
def SP (X:Cx) (pins:List (Addr×Obj)) (D:Ends) (f:Flow) (s':Shared):Prop:=
 match f with
 | .next=>∃ σ' H',Inv X pins σ' H' s'∧D.nx σ' H'
 | .brk=>∃ σ' H',Inv X pins σ' H' s'∧D.bk σ' H'
 | .cont=>∃ σ' H',Inv X pins σ' H' s'∧D.ct σ' H'
 | .ret u=>∃ v σ' H',Inv X pins σ' H' s'∧RelV v u∧D.rt v H'
def PE (X:Cx) (e:Expr) (t:TE):Prop:=
 ∀ (pins:List (Addr×Obj)) (s:Shared) (σ:St) (H:Hp) (Q:VK),Inv X pins σ H s->t σ H Q->wpAny (model X.prog X.w) X.A (eval e X.env) (EP X pins σ Q) X.xe s
def PT (X:Cx) (e:Expr) (t:TT):Prop:=
 ∀ (pins:List (Addr×Obj)) (s:Shared) (σ:St) (H:Hp) (Q:Bool->Hp->Prop),Inv X pins σ H s->t σ H Q->wpAny (model X.prog X.w) X.A (isTrue e X.env (eval e X.env)) (TP X pins σ Q) X.xe s
def PW (X:Cx) (e:Expr) (t:TT):Prop:=
 ∀ (whole:Sem Value) (pins:List (Addr×Obj)) (s:Shared) (σ:St) (H:Hp) (Q:Bool->Hp->Prop),Inv X pins σ H s->t σ H Q->wpAny (model X.prog X.w) X.A (isTrue e X.env whole) (TP X pins σ Q) X.xe s
theorem PW.pt {X:Cx} {e:Expr} {t:TT} (h:PW X e t):PT X e t:=h _
def PA (X:Cx) (es:List Expr) (t:TA):Prop:=
 ∀ (pos:Pos) (pins:List (Addr×Obj)) (s:Shared) (σ:St) (H:Hp) (Q:List V->Hp->Prop),Inv X pins σ H s->t σ H Q->wpAny (model X.prog X.w) X.A (spliced (backTo pos (starEach es X.env))) (AP X pins σ Q) X.xe s
def PS (X:Cx) (st:Stmt) (t:TS):Prop:=
 ∀ (pins:List (Addr×Obj)) (s:Shared) (σ:St) (H:Hp) (D:Ends),Inv X pins σ H s->t D σ H->wpAny (model X.prog X.w) X.A (exec st X.env) (SP X pins D) X.xe s
def PSs (X:Cx) (st:List Stmt) (t:TS):Prop:=
 ∀ (pins:List (Addr×Obj)) (s:Shared) (σ:St) (H:Hp) (D:Ends),Inv X pins σ H s->t D σ H->wpAny (model X.prog X.w) X.A (execs st X.env) (SP X pins D) X.xe s
theorem thn {α:Type} {t:Sem α} {Q Q':α->Shared->Prop} {M:Model} {A:Around} {E:Value->Shared->Prop} {s:Shared} (h:wpAny M A t Q E s) (hQ:∀ a s,Q a s->Q' a s):wpAny M A t Q' E s:=wpAny_mono h hQ fun _ _ x=>x
end L2
namespace L2
open PySem PySem.Spec PyProof.Rows
section
variable {X:Cx}
def tVar (i:Nat):TE:=fun σ H Q=>∃ v,σ[i]?=some (some v)∧Q v H
def tC (v:V):TE:=fun _ H Q=>Q v H
theorem jO {i:Nat} {x:Str} {pos:Pos} (hN:X.N[i]?=some x) (hv:Vis X.env.scope x) (hd:(x==("__debug__":Str))=false:=by decide) (hcd:(x==("__classdict__":Str))=false:=by decide):PE X (.Name x pos) (tVar i):=by
 intro pins s σ H Q I h
 obtain ⟨v,e,h⟩:=h
 obtain ⟨m,hn,hl⟩:=I.loc
 obtain ⟨u,r,l⟩:=hl i x v hN e hv
 have fin:EP X pins σ Q u s:=⟨v,H,I,r,h⟩
 rcases l with ⟨hk,hm⟩ | ⟨hk,c,hc,hcell⟩
 ·exact wpAny_Name (wpAny_loadName_local I.ok.kind hk hn hm fin) hd
 ·rcases hk with hk | hk
  ·exact wpAny_Name (wpAny_loadName_cell I.ok.kind hk hc hcell fin) hd
  ·exact wpAny_Name (wpAny_loadName_free I.ok.kind hk hc hcell fin hcd) hd
theorem Ab {i j pos}:PE X (.Constant (.int i) j pos) (tC (.int i)):=fun _ _ _ H _ I h=>wpAny_Constant_int ⟨.int i,H,I.tok _,⟨_,rfl⟩,h⟩
theorem C3 {b j pos}:PE X (.Constant (.bool b) j pos) (tC (.bl b)):=fun _ _ _ H _ I h=>Constant_bool ⟨.bl b,H,I,rfl,h⟩
theorem D0 {j pos}:PE X (.Constant .none j pos) (tC .non):=fun _ _ _ H _ I h=>Constant_none ⟨.non,H,I,rfl,h⟩
theorem A4 {x j pos}:PE X (.Constant (.str x) j pos) (tC (.str x)):=fun _ _ _ H _ I h=>Calls.Constant_str ⟨.str x,H,I.tok _,⟨_,rfl⟩,h⟩
def Gl (X:Cx) (x:Str):Prop:=X.env.kindOf x=some .globalImplicit
theorem Fl {E:Value->Shared->Prop} {pins:List (Addr×Obj)} {s:Shared} {σ:St} {H:Hp} {x:Str} {u:Value} {pos:Pos} {Q:Value->Shared->Prop} (I:Inv X pins σ H s) (hg:Gl X x) (hm:X.mg x=some u) (h:Q u s)
  (hd:(x==("__debug__":Str))=false:=by decide):wpAny (model X.prog X.w) X.A (eval (.Name x pos) X.env) Q E s:=
 Calls.Name_function_global I.ok.kind hg (Calls.loadGlobal_global (by rw [I.ok.glob]; exact I.mod.glob.keeps I.bk) hm h) hd
theorem G3 {E:Value->Shared->Prop} {pins:List (Addr×Obj)} {s:Shared} {σ:St} {H:Hp} {x:Str} {u:Value} {pos:Pos} {Q:Value->Shared->Prop} (I:Inv X pins σ H s) (hg:Gl X x) (hm:X.mg x=none) (hv:bootBuiltins x=some u) (h:Q u s)
  (hn:x≠"__name__":=by decide) (hd:(x==("__debug__":Str))=false:=by decide):wpAny (model X.prog X.w) X.A (eval (.Name x pos) X.env) Q E s:=by
 obtain ⟨mb,h1,h2⟩:=I.mod.blt
 exact Calls.Name_function_global I.ok.kind hg (Calls.loadGlobal_builtin (by rw [I.ok.glob]; exact I.mod.glob.keeps I.bk) hm (by rw [I.ok.blt]; exact h1.keeps I.bk) ((h2 x hn).trans hv) h) hd
theorem Jx {x:Str} {v:V} {u:Value} {pos:Pos} (hg:Gl X x) (hm:X.mg x=some u) (r:RelV v u) (hd:(x==("__debug__":Str))=false:=by decide):PE X (.Name x pos) (tC v):=
 fun _ _ _ H _ I h=>Fl I hg hm ⟨v,H,I,r,h⟩ hd
theorem Xl {x:Str} {v:V} {u:Value} {pos:Pos} (hg:Gl X x) (hm:X.mg x=none) (hv:bootBuiltins x=some u) (r:RelV v u) (hn:x≠"__name__":=by decide) (hd:(x==("__debug__":Str))=false:=by decide):PE X (.Name x pos) (tC v):=
 fun _ _ _ H _ I h=>G3 I hg hm hv ⟨v,H,I,r,h⟩ hn hd
variable {a b:Expr} {ta tb:TE} {pos:Pos}
def PC (X:Cx) (op:CmpOp) (a b:Expr) (t:TE):Prop:=
 ∀ (pins:List (Addr×Obj)) (s:Shared) (σ:St) (H:Hp) (Q:VK),Inv X pins σ H s->t σ H Q ->
  wpAny (model X.prog X.w) X.A (eval a X.env) (fun v s₁=>wpAny (model X.prog X.w) X.A (eval b X.env) (fun u s₂=>wpAny (model X.prog X.w) X.A (compareOp op v u) (EP X pins σ Q) X.xe s₂) X.xe s₁) X.xe s
def tB (t:TE):TT:=fun σ H Q=>t σ H fun x H1=>∃ c,x=.bl c∧Q c H1
theorem Vs {op:CmpOp} {t:TE} (h:PC X op a b t) (h1:behindInMarks op b=false:=by first | exact nobehind _ (by decide) (by decide) | rfl):PE X (.Compare a [op] [b] pos) t:=fun pins s σ H Q I hw=>wpAny_Compare1 (h pins s σ H Q I hw) h1
theorem jM {op:CmpOp} {t:TE} (h:PC X op a b t) (h1:behindInMarks op b=false:=by first | exact nobehind _ (by decide) (by decide) | rfl):PT X (.Compare a [op] [b] pos) (tB t):=by
 intro pins s σ H Q I hw
 refine wpAny_isTrue_Compare1 (thn (h pins s σ H _ I hw) fun v s1 h1=>thn h1 fun u s2 h2=>thn h2 fun c s3 ⟨x,H1,I1,r1,q1⟩=>?_) h1
 obtain ⟨d,rfl,q⟩:=q1
 cases r1
 exact wpAny_truthy_bool ⟨H1,I1,q⟩
theorem Bp {e:Expr} {t:TE} (h:PE X e t) (he:∀ whole,isTrue e X.env whole=(do let v ← whole; standAt e.pos; holding [v] (truthy v)):=by intro _; rfl):PT X e (tB t):=by
 intro pins s σ H Q I hw
 refine isTrue_plain (thn (h pins s σ H _ I hw) fun v s1 ⟨x,H1,I1,r1,q1⟩=>?_) (he _)
 obtain ⟨d,rfl,q⟩:=q1
 cases r1
 exact wpAny_truthy_bool ⟨H1,I1,q⟩
variable {tA tB':TT} {rest:List Expr}
def tAnd (t u:TT):TT:=fun σ H Q=>t σ H fun c H1=>if c=true then u σ H1 Q else Q false H1
def tOr (t u:TT):TT:=fun σ H Q=>t σ H fun c H1=>if c=true then Q true H1 else u σ H1 Q
def tNot (t:TT):TT:=fun σ H Q=>t σ H fun c H1=>Q (!c) H1
theorem Ju (ha:PT X a tA):PW X (.BoolOp .And [a] pos) tA:=by
 intro wh pins s σ H Q I h
 refine isTrue_and (thn (ha pins s σ H Q I h) fun c s1 e=>?_)
 cases c with
 | true=>exact isTrue_and_nil e
 | false=>exact e
theorem Iy (ha:PT X a tA):PW X (.BoolOp .Or [a] pos) tA:=by
 intro wh pins s σ H Q I h
 refine isTrue_or (thn (ha pins s σ H Q I h) fun c s1 e=>?_)
 cases c with
 | false=>exact isTrue_or_nil e
 | true=>exact e
theorem N0 (ha:PT X a tA) (hb:PW X (.BoolOp .And (b::rest) pos) tB'):PW X (.BoolOp .And (a::b::rest) pos) (tAnd tA tB'):=by
 intro wh pins s σ H Q I h
 refine isTrue_and (thn (ha pins s σ H _ I h) fun c s1 ⟨H1,I1,q1⟩=>?_)
 cases c with
 | true=>exact hb wh pins s1 σ H1 Q I1 q1
 | false=>exact ⟨H1,I1,q1⟩
theorem K8 (ha:PT X a tA) (hb:PW X (.BoolOp .Or (b::rest) pos) tB'):PW X (.BoolOp .Or (a::b::rest) pos) (tOr tA tB'):=by
 intro wh pins s σ H Q I h
 refine isTrue_or (thn (ha pins s σ H _ I h) fun c s1 ⟨H1,I1,q1⟩=>?_)
 cases c with
 | true=>exact ⟨H1,I1,q1⟩
 | false=>exact hb wh pins s1 σ H1 Q I1 q1
theorem Bv (ha:PT X a tA):PT X (.UnaryOp .Not a pos) (tNot tA):=by
 intro pins s σ H Q I h
 exact isTrue_not (ha pins s σ H (fun c H1=>Q (!c) H1) I h)
def tAndV (ta tb:TE):TE:=fun σ H Q=>ta σ H fun x H1=>∃ c,x=.bl c∧if c=true then tb σ H1 Q else Q (.bl false) H1
theorem Vr {op} {t:TE} (h:PE X a t):PE X (.BoolOp op [a] pos) t:=fun pins s σ H Q I hw=>BoolOp_one (h pins s σ H Q I hw)
theorem Rv (ha:PE X a ta) (hb:PE X (.BoolOp .And (b::rest) pos) tb):PE X (.BoolOp .And (a::b::rest) pos) (tAndV ta tb):=by
 intro pins s σ H Q I h
 refine BoolOp_and (thn (ha pins s σ H _ I h) fun v s1 ⟨x,H1,I1,r1,q1⟩=>?_)
 obtain ⟨c,rfl,q1⟩:=q1
 cases r1
 refine wpAny_truthy_bool ?_
 cases c with
 | true=>exact hb pins s1 σ H1 Q I1 q1
 | false=>exact ⟨.bl false,H1,I1,rfl,q1⟩
end
end L2
namespace L2
open PySem PySem.Spec PyProof.Rows
def SqL (K:PySem.W.Frag) (H:Hp) (a:Addr) (xs:List V):Prop:=
 Rd H a (.lst xs) ∨
  ∃ (o:Obj) (its:Array Value) (n:Nat),K.lookup a=some o∧o.cls=.type "list"∧o.dict=none∧o.data=.seq its n∧its.size≤sizeLine∧Vals xs its.toList
def SqT (K:PySem.W.Frag) (H:Hp) (a:Addr) (xs:List V):Prop:=
 Rd H a (.tup xs) ∨
  ∃ (o:Obj) (its:Array Value) (n:Nat),K.lookup a=some o∧o.cls=.type "tuple"∧o.data=.seq its n∧its.size≤sizeLine∧Vals xs its.toList
def absV:Value->Option V
 | .none=>some .non
 | .bool b=>some (.bl b)
 | .int i _=>some (.int i)
 | .str x _=>some (.str x)
 | .bytes b _=>some (.byt b)
 | .float b _=>some (.flt b)
 | .ref a=>some (.ref a)
 | .type n=>some (.ty n)
 | _=>none
theorem RelV.abs {x:V} {u:Value} (r:RelV x u):absV u=some x:=by
 cases x with
 | non=>cases r; rfl
 | bl _=>cases r; rfl
 | int _=>obtain ⟨t,rfl⟩:=r; rfl
 | str _=>obtain ⟨t,rfl⟩:=r; rfl
 | byt _=>obtain ⟨t,rfl⟩:=r; rfl
 | flt _=>obtain ⟨t,rfl⟩:=r; rfl
 | ref _=>cases r; rfl
 | ty _=>cases r; rfl
theorem RelV.inj {x y:V} {u:Value} (r:RelV x u) (q:RelV y u):x=y:=Option.some.inj (r.abs.symm.trans q.abs)
theorem Vals.inj:∀ {xs ys:List V} {us:List Value},Vals xs us->Vals ys us->xs=ys
 | _,_,_,.nil,.nil=>rfl
 | _,_,_,.cons r t,.cons r' t'=>by rw [r.inj r',Vals.inj t t']
section
variable {X:Cx} {pins:List (Addr×Obj)} {σ:St} {H:Hp} {s:Shared} {a:Addr} {xs ys:List V}
theorem SqL.of {K:PySem.W.Frag} (h:H a=some (.lst xs)):SqL K H a xs:=.inl (.inl h)
theorem SqT.of {K:PySem.W.Frag} (h:H a=some (.tup xs)):SqT K H a xs:=.inl (.inl h)
theorem Inv.list (I:Inv X pins σ H s) (h:SqL X.K H a xs):∃ its:List Value,Vals xs its∧PlainL s.heap a its.toArray∧xs.length≤sizeLine:=by
 rcases h with h | ⟨o,its,n,hk,hc,hd,hs,hz,r⟩
 ·obtain ⟨z,its,n,r,e⟩:=h.ok I.hok
  exact ⟨its,r,⟨_,n,e,rfl,rfl,rfl⟩,z⟩
 ·refine ⟨its.toList,r,⟨o,n,I.kIn a o hk,hc,hd,by simpa using hs⟩,?_⟩
  have e:=r.length
  simp only [Array.length_toList] at e
  omega
theorem Inv.tuple (I:Inv X pins σ H s) (h:SqT X.K H a xs):∃ its:List Value,Vals xs its∧IsTup s.heap a its.toArray∧xs.length≤sizeLine:=by
 rcases h with h | ⟨o,its,n,hk,hc,hs,hz,r⟩
 ·obtain ⟨z,its,r,p⟩:=h.ok I.hok
  exact ⟨its,r,p,z⟩
 ·refine ⟨its.toList,r,⟨o,I.kIn a o hk,hc,n,by simpa using hs⟩,?_⟩
  have e:=r.length
  simp only [Array.length_toList] at e
  omega
theorem Inv.list_inj (I:Inv X pins σ H s) (h:SqL X.K H a xs) (h':SqL X.K H a ys):xs=ys:=by
 obtain ⟨its,r,⟨o,n,e,_,_,d⟩,_⟩:=I.list h
 obtain ⟨its',r',⟨o',n',e',_,_,d'⟩,_⟩:=I.list h'
 rw [e] at e'; cases e'
 rw [d] at d'
 injection d' with d1 _
 have:its=its':=by simpa using congrArg Array.toList d1
 subst this
 exact r.inj r'
end
abbrev Cx.wish (X:Cx) (E:Value->Shared->Prop):Cx:={X with xe:=E}
abbrev Cx.nox (X:Cx):Cx:=X.wish fun _ _=>False
theorem Cx.Ok.wish {X:Cx} (ok:X.Ok) (E:Value->Shared->Prop):(X.wish E).Ok:=
 ⟨ok.mod,ok.kind,ok.glob,ok.blt,ok.above,ok.inj,ok.has,ok.cab,ok.hd,ok.frames,ok.stk,ok.exf,ok.bs,ok.bsz,ok.noex,ok.exfs,ok.funs,ok.frf⟩
theorem Cx.Ok.unwish {X:Cx} {E:Value->Shared->Prop} (ok:(X.wish E).Ok):X.Ok:=
 ⟨ok.mod,ok.kind,ok.glob,ok.blt,ok.above,ok.inj,ok.has,ok.cab,ok.hd,ok.frames,ok.stk,ok.exf,ok.bs,ok.bsz,ok.noex,ok.exfs,ok.funs,ok.frf⟩
section
variable {X:Cx} {pins:List (Addr×Obj)} {σ:St} {H:Hp} {s:Shared} {E:Value->Shared->Prop}
theorem Inv.wish (I:Inv X pins σ H s) (E:Value->Shared->Prop):Inv (X.wish E) pins σ H s:=⟨I.ok.wish E,I.os,I.bare,I.base,I.loc,I.cell,I.free,I.freeC,I.pin,I.hok,I.len⟩
theorem Inv.unwish (I:Inv (X.wish E) pins σ H s):Inv X pins σ H s:=⟨I.ok.unwish,I.os,I.bare,I.base,I.loc,I.cell,I.free,I.freeC,I.pin,I.hok,I.len⟩
theorem SP.unwish {D:Ends} {f:Flow} {s':Shared} (h:SP (X.wish E) pins D f s'):SP X pins D f s':=by
 cases f with
 | next=>obtain ⟨σ',H',I,q⟩:=h; exact ⟨σ',H',I.unwish,q⟩
 | brk=>obtain ⟨σ',H',I,q⟩:=h; exact ⟨σ',H',I.unwish,q⟩
 | cont=>obtain ⟨σ',H',I,q⟩:=h; exact ⟨σ',H',I.unwish,q⟩
 | ret u=>obtain ⟨v,σ',H',I,r,q⟩:=h; exact ⟨v,σ',H',I.unwish,r,q⟩
theorem PSs.nox {st:List Stmt} {t:TS} (h:PSs X.nox st t):PSs X st t:=fun pins s σ H D I hw=>
 wpAny_mono (h pins s σ H D (I.wish _) hw) (fun _ _ q=>q.unwish) fun _ _ z=>False.elim z
end
section
variable {X:Cx} {st:Stmt} {rest:List Stmt} {t u:TS} {e:Expr} {te:TE} {pos:Pos}
def iC:TS:=fun D σ H=>D.nx σ H
def tSeq (t u:TS):TS:=fun D σ H=>t {D with nx:=u D} σ H
theorem Av:PSs X [] iC:=fun _ _ σ H _ I h=>wpAny_execs_nil ⟨σ,H,I,h⟩
theorem Ad (h1:PS X st t) (h2:PSs X rest u):PSs X (st::rest) (tSeq t u):=by
 intro pins s σ H D I h
 refine wpAny_execs_cons (thn (h1 pins s σ H {D with nx:=u D} I h) fun f s1 q=>?_)
 cases f with
 | next=>
   obtain ⟨σ',H',I',q⟩:=q
   exact h2 pins s1 σ' H' D I' q
 | ret v=>exact q
 | brk=>exact q
 | cont=>exact q
theorem Af (h1:PS X st t):PSs X [st] t:=by
 intro pins s σ H D I h
 refine wpAny_execs_cons (thn (h1 pins s σ H D I h) fun f s1 q=>?_)
 cases f with
 | next=>exact wpAny_execs_nil q
 | ret v=>exact q
 | brk=>exact q
 | cont=>exact q
theorem fW:PS X (.Pass pos) iC:=fun _ _ σ H _ I h=>wpAny_Pass ⟨σ,H,I,h⟩
theorem Inv.quiet {pins:List (Addr×Obj)} {σ:St} {H:Hp} {s:Shared} (I:Inv X pins σ H s):interactive X.env=false:=by simp [interactive,I.ok.kind]
def tDrop (te:TE):TS:=fun D σ H=>te σ H fun _ H1=>D.nx σ H1
theorem Ak (he:PE X e te) (hs:swapsWith e none pos.line X.env=pure false:=by rfl):PS X (.Expr e pos) (tDrop te):=by
 intro pins s σ H D I h
 exact wpAny_Expr_any (thn (he pins s σ H _ I h) fun v s1 ⟨x,H1,I1,r1,q1⟩=>⟨σ,H1,I1,q1⟩) I.quiet hs
def tRet (te:TE):TS:=fun D σ H=>te σ H D.rt
theorem As (he:PE X e te):PS X (.Return (some e) pos) (tRet te):=by
 intro pins s σ H D I h
 exact wpAny_Return_some (thn (he pins s σ H _ I h) fun v s1 ⟨x,H1,I1,r1,q1⟩=>⟨x,σ,H1,I1,r1,q1⟩)
def tIfS (c:TT) (t u:TS):TS:=fun D σ H=>c σ H fun b H1=>if b=true then t D σ H1 else u D σ H1
theorem Az {c:Expr} {a b:List Stmt} {tc:TT} (hc:PT X c tc) (ha:PSs X a t) (hb:PSs X b u):PS X (.If c a b pos) (tIfS tc t u):=by
 intro pins s σ H D I h
 refine wpAny_If (thn (hc pins s σ H _ I h) fun d s1 ⟨H1,I1,q1⟩=>?_)
 cases d with
 | true=>exact ha pins s1 σ H1 D I1 q1
 | false=>exact hb pins s1 σ H1 D I1 q1
def iW:TS:=fun _ _ _=>False
theorem A2 {sts:List Stmt}:PSs X sts iW:=fun _ _ _ _ _ _ h=>h.elim
end
abbrev TG:=V->St->Hp->(St->Hp->Prop)->Prop
abbrev TGs:=List V->St->Hp->(St->Hp->Prop)->Prop
def PG (X:Cx) (target:Expr) (t:TG):Prop:=
 ∀ (pins:List (Addr×Obj)) (s:Shared) (σ:St) (H:Hp) (v:V) (u:Value) (Q:St->Hp->Prop),Inv X pins σ H s->RelV v u->t v σ H Q ->
  wpAny (model X.prog X.w) X.A (assign target X.env u) (fun _ s'=>∃ σ' H',Inv X pins σ' H' s'∧Q σ' H') X.xe s
def PGs (X:Cx) (ts:List Expr) (t:TGs):Prop:=
 ∀ (pins:List (Addr×Obj)) (s:Shared) (σ:St) (H:Hp) (vs:List V) (us:List Value) (Q:St->Hp->Prop),Inv X pins σ H s->Vals vs us->t vs σ H Q ->
  wpAny (model X.prog X.w) X.A (assignInOrder ((assignEach ts X.env).map (·.2)) us) (fun _ s'=>∃ σ' H',Inv X pins σ' H' s'∧Q σ' H') X.xe s
abbrev TSet:=V->V->V->Hp->(Hp->Prop)->Prop
def PSet (X:Cx) (t:TSet):Prop:=
 ∀ (pins:List (Addr×Obj)) (s:Shared) (σ:St) (H:Hp) (o i v:V) (ov iv u:Value) (Q:Hp->Prop),Inv X pins σ H s->RelV o ov->RelV i iv->RelV v u->t o i v H Q ->
  wpAny (model X.prog X.w) X.A (setItem ov iv u) (fun _ s'=>∃ H',Inv X pins σ H' s'∧Q H') X.xe s
abbrev TIp:=V->V->Hp->VK->Prop
def PIp (X:Cx) (op:Operator) (t:TIp):Prop:=
 ∀ (pins:List (Addr×Obj)) (s:Shared) (σ:St) (H:Hp) (x y:V) (v u:Value) (Q:VK),Inv X pins σ H s->RelV x v->RelV y u->t x y H Q ->
  wpAny (model X.prog X.w) X.A (inplaceOp op v u) (EP X pins σ Q) X.xe s
section
variable {X:Cx} {pos:Pos}
def Xq (i:Nat):TG:=fun v σ H Q=>Q (σ.set i (some v)) H
theorem By {i:Nat} {x:Str} (hN:X.N.Nodup) (hi:X.N[i]?=some x) (hx:Loc X.env.scope x) (hf:X.fn x=true∨X.env.scope.names.lookup x=some .local:=by first | exact .inl rfl | exact .inr rfl | assumption):PG X (.Name x pos) (Xq i):=by
 intro pins s σ H v u Q I r h
 exact wpAny_assign_Name (Jl I hN hi hx r (fun s' I'=>⟨_,H,I',h⟩) hf)
def gNil:TGs:=fun vs σ H Q=>vs=[]∧Q σ H
def dR (t:TG) (u:TGs):TGs:=fun vs σ H Q=>∃ v r,vs=v::r∧t v σ H fun σ' H'=>u r σ' H' Q
theorem Mm:PGs X [] gNil:=by
 intro pins s σ H vs us Q I r h
 obtain ⟨e,h⟩:=h
 subst e
 cases r
 exact assignInOrder_nil ⟨σ,H,I,h⟩
theorem Dw {e:Expr} {es:List Expr} {t:TG} {u:TGs} (h1:PG X e t) (h2:PGs X es u)
  (hs:(assignEach (e::es) X.env).map (·.2)=assign e X.env::(assignEach es X.env).map (·.2):=by rfl):PGs X (e::es) (dR t u):=by
 intro pins s σ H vs us Q I r h
 obtain ⟨v,vr,e1,h⟩:=h
 subst e1
 cases r with
 | cons r rr=>
   rw [hs]
   refine assignInOrder_cons (thn (h1 pins s σ H _ _ _ I r h) fun _ s1 ⟨σ1,H1,I1,q1⟩=>?_)
   exact h2 pins s1 σ1 H1 _ _ Q I1 rr q1
def gTup (K:PySem.W.Frag) (n:Nat) (t:TGs):TG:=fun v σ H Q=>∃ a xs,v=.ref a∧SqT K H a xs∧xs.length=n∧t xs σ H Q
theorem Ru {es:List Expr} {k:Nat} {t:TGs} {n:Nat} (hc:X.calm=true) (h:PGs X es t)
  (hn:(assignEach es X.env).length=n:=by rfl) (hst:(assignEach es X.env).findIdx? (·.1)=none:=by rfl):PG X (.Tuple es k pos) (gTup X.K n t):=by
 intro pins s σ H v u Q I r hw
 obtain ⟨a,xs,e1,hq,hl,hw⟩:=hw
 subst e1
 cases r
 obtain ⟨its,rv,ht,hz⟩:=I.tuple hq
 refine assign_Tuple_tuple (I.ok.hd hc) ht (by simp [hn,← hl,rv.length]) hst fun h' hx=>?_
 have I1:Inv X pins σ H {s with heap:=h'}:=I.kept (t':=s.toks) fun b o e=>hx b o (Nat.ne_of_lt (Heap.lt_size e)) e
 exact h pins _ σ H xs _ Q I1 (by simpa using rv) hw
def gSub (to ti:TE) (t:TSet):TG:=fun v σ H Q=>to σ H fun o H1=>ti σ H1 fun i H2=>t o i v H2 fun H3=>Q σ H3
theorem Vp {o i:Expr} {to ti:TE} {t:TSet} (ho:PE X o to) (hi:PE X i ti) (hs:PSet X t)
  (ha:∀ v,assign (.Subscript o i pos) X.env v=(do
    let ov ← holding [v] (eval o X.env)
    let iv ← holding [v,ov] (eval i X.env)
    standAt pos
    holding [v,ov,iv] (setItem ov iv v)
    release [v,ov,iv] []):=by intro _; rfl):PG X (.Subscript o i pos) (gSub to ti t):=by
 intro pins s σ H v u Q I r h
 rw [ha]
 refine wpAny_bind (wpAny_holding (thn (ho pins s σ H _ I h) fun ov s1 ⟨x,H1,I1,r1,q1⟩=>?_))
 refine wpAny_bind (wpAny_holding (thn (hi pins s1 σ H1 _ I1 q1) fun iv s2 ⟨y,H2,I2,r2,q2⟩=>?_))
 refine wpAny_bind (wpAny_standAt (wpAny_bind (wpAny_holding (thn (hs pins s2 σ H2 x y v ov iv u _ I2 r1 r2 r q2) fun _ s3 ⟨H3,I3,q3⟩=>?_))))
 exact wpAny_release ⟨σ,H3,I3,q3⟩
def tAsg (te:TE) (g:TG):TS:=fun D σ H=>te σ H fun x H1=>g x σ H1 D.nx
theorem Vo {tg e:Expr} {te:TE} {g:TG} (he:PE X e te) (hg:PG X tg g) (hs:swapsWithSole [tg] e pos.line X.env=pure false:=by rfl) (hw:swappedStores [tg] e X.env=pure none:=by rfl)
  (h1:(assignEach [tg] X.env).map (·.2)=[assign tg X.env]:=by rfl):PS X (.Assign [tg] e pos) (tAsg te g):=by
 intro pins s σ H D I h
 refine wpAny_Assign_stores (thn (he pins s σ H _ I h) fun v s1 ⟨x,H1,I1,r1,q1⟩=>?_) hs hw
 rw [h1]
 exact thn (hg pins s1 σ H1 x v _ I1 r1 q1) fun _ s2 q=>q
theorem A3 {i:Nat} {x:Str} {e:Expr} {te:TE} {pos':Pos} (hN:X.N.Nodup) (hi:X.N[i]?=some x) (hx:Loc X.env.scope x) (he:PE X e te) (hs:swapsWith e (some (.Name x pos')) pos.line X.env=pure false:=by rfl) (hf:X.fn x=true∨X.env.scope.names.lookup x=some .local:=by first | exact .inl rfl | exact .inr rfl | assumption) :
  PS X (.Assign [.Name x pos'] e pos) (tAsg te (Xq i)):=by
 intro pins s σ H D I h
 refine wpAny_Assign_Name (thn (he pins s σ H _ I h) fun v s1 ⟨y,H1,I1,r1,q1⟩=>?_) hs
 exact Jl I1 hN hi hx r1 (fun s2 I2=>⟨_,H1,I2,q1⟩) hf
def tAug (i:Nat) (te:TE) (ti:TIp):TS:=fun D σ H=>∃ x,σ[i]?=some (some x)∧te σ H fun y H1=>ti x y H1 fun z H2=>D.nx (σ.set i (some z)) H2
theorem jN {i:Nat} {x:Str} {e:Expr} {te:TE} {op:Operator} {ti:TIp} {pos':Pos} (hN:X.N.Nodup) (hi:X.N[i]?=some x) (hx:Loc X.env.scope x) (he:PE X e te) (ho:PIp X op ti) (hf:X.fn x=true∨X.env.scope.names.lookup x=some .local:=by first | exact .inl rfl | exact .inr rfl | assumption) :
  PS X (.AugAssign (.Name x pos') op e pos) (tAug i te ti):=by
 intro pins s σ H D I h
 obtain ⟨v,e1,h⟩:=h
 obtain ⟨m,hn,hl⟩:=I.loc
 have vis:Vis X.env.scope x:=by rcases hx with k | k; exact .inl k; exact .inr (.inl k)
 obtain ⟨u,r,l⟩:=hl i x v hi e1 vis
 refine wpAny_AugAssign_Name ?_
 have go:wpAny (model X.prog X.w) X.A (eval e X.env) (fun w s₂=>wpAny (model X.prog X.w) X.A (inplaceOp op u w) (fun r s₃=>wpAny (model X.prog X.w) X.A (storeName X.env x r) (fun _=>SP X pins D .next) X.xe s₃) X.xe s₂) X.xe s:=by
  refine thn (he pins s σ H _ I h) fun w s1 ⟨y,H1,I1,r1,q1⟩=>?_
  refine thn (ho pins s1 σ H1 v y u w _ I1 r r1 q1) fun z s2 ⟨zv,H2,I2,r2,q2⟩=>?_
  exact Jl I2 hN hi hx r2 (fun s3 I3=>⟨_,H2,I3,q2⟩) hf
 rcases l with ⟨hk,hm⟩ | ⟨hk,c,hc,hcell⟩
 ·exact wpAny_loadName_local I.ok.kind hk hn hm go
 ·rcases hk with hk | hk
  ·exact wpAny_loadName_cell I.ok.kind hk hc hcell go
  ·rcases hx with k | k
   ·have:X.env.scope.names.lookup x=some .free:=hk
    rw [k] at this; cases this
   ·have:X.env.scope.names.lookup x=some .free:=hk
    rw [k] at this; cases this
def ipI (f:Int->Int->Int):TIp:=fun x y H Q=>∃ i j,x=.int i∧y=.int j∧Q (.int (f i j)) H
theorem kH:PIp X .Add (ipI fun i j=>i+j):=by
 intro pins s σ H x y v u Q I r1 r2 h
 obtain ⟨i,j,e1,e2,q⟩:=h
 subst e1; subst e2
 obtain ⟨t,rfl⟩:=r1
 obtain ⟨t',rfl⟩:=r2
 exact iadd_int ⟨.int _,H,I.tok _,⟨_,rfl⟩,q⟩
end
section
variable {X:Cx} {pos:Pos}
def iU (c:TT) (tb:TS):TS:=fun D σ H=>∃ W:Nat->St->Hp->Prop,(∃ m,W m σ H)∧∀ m σ H,W m σ H ->
 c σ H fun b H1=>if b=true then ∃ N:St->Hp->Prop,(∀ σ' H',N σ' H'->∃ m',m'<m∧W m' σ' H')∧tb {D with nx:=N,ct:=N,bk:=D.nx} σ H1 else D.nx σ H1
theorem T9 {c:Expr} {body:List Stmt} {tc:TT} {tb:TS} (hp:PassesOwn (model X.prog X.w) X.A X.env X.xe) (hc:PT X c tc) (hb:PSs X body tb):PS X (.While c body [] pos) (iU tc tb):=by
 intro pins s σ H D I h
 obtain ⟨W,⟨m0,w0⟩,turn⟩:=h
 refine wpAny_While (codeAny_whileLoop (fun n s'=>∃ σ' H',Inv X pins σ' H' s'∧W n σ' H') ?_ m0 ⟨σ,H,I,w0⟩)
 rintro n s1 ⟨σ1,H1,I1,w1⟩
 refine wpAny_passesOwn hp (thn (hc pins s1 σ1 H1 _ I1 (turn n σ1 H1 w1)) fun b s2 ⟨H2,I2,q2⟩=>?_)
 cases b with
 | true=>
   obtain ⟨N,hN,q2⟩:=q2
   rw [if_pos rfl]
   refine wpAny_passesOwn hp (thn (hb pins s2 σ1 H2 _ I2 q2) fun f s3 q3=>?_)
   cases f with
   | next=>
     obtain ⟨σ3,H3,I3,n3⟩:=q3
     obtain ⟨m',hm,w3⟩:=hN σ3 H3 n3
     exact ⟨m',hm,σ3,H3,I3,w3⟩
   | cont=>
     obtain ⟨σ3,H3,I3,n3⟩:=q3
     obtain ⟨m',hm,w3⟩:=hN σ3 H3 n3
     exact ⟨m',hm,σ3,H3,I3,w3⟩
   | brk=>exact q3
   | ret v=>exact q3
 | false=>
   rw [if_neg Bool.false_ne_true]
   exact wpAny_execs_nil ⟨σ1,H2,I2,q2⟩
end
structure It where
 go:Nat->Hp->Prop
 yld:Nat->Hp->V->Hp->Prop
 stop:Nat->Hp->Prop
def FpOk (X:Cx) (pins:List (Addr×Obj)) (H:Hp) (b:Addr):Prop:=
 H b=none∧b≠X.env.locals∧b∉X.fs∧(b∈X.ex∨X.s₀.heap.objs.size≤b)∧(∀ x c,X.env.cells.lookup x=some c->c≠b)∧∀ p∈X.pn++pins,p.1≠b
theorem Inv.fpOk {X:Cx} {pins:List (Addr×Obj)} {σ:St} {H H':Hp} {s:Shared} {b:Addr} (I:Inv X pins σ H s) (hb:s.heap.objs.size≤b) (hn:H' b=none):FpOk X pins H' b:=by
 refine ⟨hn,Nat.ne_of_gt (Nat.lt_of_lt_of_le I.lt hb),I.nofs hb,.inr (Nat.le_trans I.sz hb),fun x c e z=>?_,fun p hp z=>?_⟩
 ·obtain ⟨v,q⟩:=I.cell x c e
  exact absurd (Nat.lt_of_lt_of_le q.lt (by rw [z]; exact hb)) (Nat.lt_irrefl _)
 ·exact absurd (Nat.lt_of_lt_of_le (Heap.lt_size (I.pin p hp).1) (by rw [z]; exact hb)) (Nat.lt_irrefl _)
structure Turn (P:Program) (w:World) (K:PySem.W.Frag) (tg:Expr) (J:It) (fp:List Addr) (it:Addr) (tn:Nat->Heap->Prop):Prop where
 mem:it∈fp
 obj:∀ i h,tn i h->∀ b∈fp,∃ o,h.get? b=some o∧∀ v,o.data≠.cell v
 keep:∀ i h h',tn i h->(∀ b∈fp,∀ o,h.get? b=some o->h'.get? b=some o)->tn i h'
 item:∀ (X:Cx),X.prog=P->X.w=w->X.K=K->X.calm=true->∀ (i:Nat) (pins:List (Addr×Obj)) (s:Shared) (σ:St) (H:Hp) (E:Value->Shared->Prop),Inv X pins σ H s->(∀ b∈fp,FpOk X pins H b)->tn i s.heap->J.go i H ->
  wpAny (model P w) X.A (pyNext (.ref it)) (fun r s1=>∃ u,r=some u ∧
   wpAny (model P w) X.A (letOwnedTupleGo tg (.ref it) u) (fun _ s2=>∃ x H',Inv X pins σ H' s2∧RelV x u∧J.yld i H x H'∧tn (i+1) s2.heap∧∀ b∈fp,H' b=none) E s1) E s
 done:∀ (X:Cx),X.prog=P->X.w=w->X.K=K->X.calm=true->∀ (i:Nat) (pins:List (Addr×Obj)) (s:Shared) (σ:St) (H:Hp) (E:Value->Shared->Prop),Inv X pins σ H s->(∀ b∈fp,FpOk X pins H b)->tn i s.heap->J.stop i H ->
  wpAny (model P w) X.A (pyNext (.ref it)) (fun r s1=>r=none∧Inv X pins σ H s1) E s
 self:∀ (A:Around) (i:Nat) (s:Shared) (Q:Value->Shared->Prop) (E:Value->Shared->Prop),tn i s.heap->Q (.ref it) s->wpAny (model P w) A (pyIter (.ref it)) Q E s
abbrev TI:=St->Hp->(It->Hp->Prop)->Prop
def PIE (X:Cx) (pins:List (Addr×Obj)) (σ:St) (tg:Expr) (R:It->Hp->Prop) (itv:Value) (s2:Shared):Prop:=
 ∃ (it:Addr) (fp:List Addr) (tn:Nat->Heap->Prop) (J:It) (H':Hp),itv=.ref it∧Inv X pins σ H' s2∧Turn X.prog X.w X.K tg J fp it tn∧tn 0 s2.heap∧(∀ b∈fp,FpOk X pins H' b)∧R J H'
def PI (X:Cx) (tg iter:Expr) (wi:TI):Prop:=
 ∀ (pins:List (Addr×Obj)) (s:Shared) (σ:St) (H:Hp) (R:It->Hp->Prop),Inv X pins σ H s->wi σ H R ->
  wpAny (model X.prog X.w) X.A (eval iter X.env) (fun v s1=>wpAny (model X.prog X.w) X.A (pyIter v) (PIE X pins σ tg R) X.xe s1) X.xe s
theorem dM {M:Model} {A:Around} {E:Value->Shared->Prop} {s:Shared} {tg:Expr} {it:Addr} {u:Value} {o:Obj} {n:String} {vs:Array Value} {Q:Unit->Shared->Prop} (ho:s.heap.get? it=some o) (hc:o.cls=.type n) (hd:o.data=.fields vs)
  (hn:["enumerate","zip","dict_itemiterator","dict_reverseitemiterator","odict_iterator","itertools.zip_longest","itertools.pairwise"].contains n=false) (hQ:Q () s):wpAny M A (letOwnedTupleGo tg (.ref it) u) Q E s:=by
 unfold letOwnedTupleGo
 cases tg <;> first
  | exact wpAny_pure hQ
  | (cases u <;> first
      | exact wpAny_pure hQ
      | (refine wpAny_bind (wpAny_load ho ?_)
         rw [hc,hd]
         show wpAny M A (if (["enumerate","zip","dict_itemiterator","dict_reverseitemiterator","odict_iterator","itertools.zip_longest","itertools.pairwise"].contains n&&vs[0]?==some (rawInt _))=true then _ else _) Q E s
         rw [if_neg (by intro h; rw [hn,Bool.false_and] at h; cases h)]
         exact wpAny_pure hQ))
def Itl (K:PySem.W.Frag) (a:Addr):It:=
 ⟨fun i H=>∃ xs x,SqL K H a xs∧xs[i]?=some x,fun i H x H'=>H'=H∧∀ xs,SqL K H a xs->xs[i]?=some x,fun i H=>∃ xs,SqL K H a xs∧xs.length≤i⟩
def Itr (lo:Int) (n:Nat):It:=⟨fun i _=>i<n,fun i H x H'=>H'=H∧x=.int (lo+i),fun i _=>n≤i⟩
theorem X4 {P:Program} {w:World} {K:PySem.W.Frag} {tg:Expr} (a it:Addr):Turn P w K tg (Itl K a) [it] it (fun i h=>h.IsListIter it a i) where
 mem:=by simp
 obj:=fun i h st b hb=>by
  have e:b=it:=by simpa using hb
  subst e
  obtain ⟨o,e,c,d⟩:=st
  exact ⟨o,e,fun v z=>by rw [d] at z; cases z⟩
 keep:=fun i h h' st k=>st.at fun o e=>k it (by simp) o e
 item:=by
  intro X hP hw hK hc i pins s σ H E I hf st hg
  subst hP hw hK
  obtain ⟨xs,x,hq,hx⟩:=hg
  obtain ⟨its,rv,p,hz⟩:=I.list hq
  obtain ⟨u,hu,ru⟩:=rv.get hx
  obtain ⟨f0,f1,f2,f3,f4,f5⟩:=hf it (by simp)
  refine wpAny_pyNext_list_item st p.isList (x:=u) (by simpa using hu) fun h' st' sb=>?_
  have I1:Inv X pins σ H {s with heap:=h'}:=I.turned (t':=s.toks) (fun b o hb e=>(sb.2 b hb).trans e) f0 f1 f3 f4 f5
  obtain ⟨o,e,c,d⟩:=id st'
  exact ⟨u,rfl,dM (s:={s with heap:=h'}) e c d (by decide) ⟨x,H,I1,ru,⟨rfl,fun ys hy=>by rw [I.list_inj hy hq]; exact hx⟩,st',fun b hb=>(hf b hb).1⟩⟩
 done:=by
  intro X hP hw hK hc i pins s σ H E I hf st hg
  subst hP hw hK
  obtain ⟨xs,hq,hx⟩:=hg
  obtain ⟨its,rv,p,hz⟩:=I.list hq
  obtain ⟨f0,f1,f2,f3,f4,f5⟩:=hf it (by simp)
  have hl:=rv.length
  exact wpAny_pyNext_list_end (I.ok.hd hc) st p.isList (by simp; omega) fun h' eb=>⟨rfl,I.turned (t':=s.toks) (fun b o hb e=>eb b o hb e) f0 f1 f3 f4 f5⟩
 self:=fun _ _ _ _ _ st h=>wpAny_pyIter_listiter st h
theorem U4 {P:Program} {w:World} {K:PySem.W.Frag} {tg:Expr} (it:Addr) (lo:Int) (n:Nat):Turn P w K tg (Itr lo n) [it] it (fun i h=>IsRangeIter h it (lo+(i:Nat) * 1) ((n:Int) - (i:Nat)) 1) where
 mem:=by simp
 obj:=fun i h st b hb=>by
  have e:b=it:=by simpa using hb
  subst e
  exact ⟨_,st,fun v z=>by
   have z':Data.fields _=Data.cell v:=z
   cases z'⟩
 keep:=fun i h h' st k=>k it (by simp) _ st
 item:=by
  intro X hP hw hK hc i pins s σ H E I hf st hg
  subst hP hw hK
  obtain ⟨f0,f1,f2,f3,f4,f5⟩:=hf it (by simp)
  have W:=Walks.range (prog:=X.prog) (w:=X.w) (I.ok.hd hc) it lo 1 n
  refine W.item i s _ _ hg st fun v h' tk hv st' kk=>?_
  obtain ⟨t,rfl⟩:=hv
  have I1:Inv X pins σ H {s with heap:=h',toks:=tk}:=I.turned (fun b o hb e=>kk b o (by simpa using hb) e) f0 f1 f3 f4 f5
  refine ⟨_,rfl,dM (s:={s with heap:=h',toks:=tk}) (n:="range_iterator") st' rfl rfl (by decide) ⟨.int (lo+i),H,I1,⟨t,?_⟩,⟨rfl,rfl⟩,st',fun b hb=>(hf b hb).1⟩⟩
  rw [Int.mul_one]
 done:=by
  intro X hP hw hK hc i pins s σ H E I hf st hg
  subst hP hw hK
  obtain ⟨f0,f1,f2,f3,f4,f5⟩:=hf it (by simp)
  exact wpAny_pyNext_range_end (I.ok.hd hc) st (by have:n≤i:=hg; omega) fun h' eb=>⟨rfl,I.turned (t':=s.toks) (fun b o hb e=>eb b o hb e) f0 f1 f3 f4 f5⟩
 self:=fun _ _ _ _ _ st h=>wpAny_pyIter_rangeiter st h
end L2
namespace L2
open PySem PySem.Spec PyProof.Rows
section
variable {X:Cx} {tg:Expr}
def iList (K:PySem.W.Frag) (tl:TE):TI:=fun σ H R=>tl σ H fun x H1=>∃ a,x=.ref a∧(∃ xs,SqL K H1 a xs)∧R (Itl K a) H1
theorem Mj {l:Expr} {tl:TE} (hl:PE X l tl):PI X tg l (iList X.K tl):=by
 intro pins s σ H R I h
 refine thn (hl pins s σ H _ I h) fun v s1 ⟨x,H1,I1,r1,q1⟩=>?_
 obtain ⟨a,e,⟨xs,hq⟩,q⟩:=q1
 subst e
 cases r1
 obtain ⟨its,rv,p,hz⟩:=I1.list hq
 refine wpAny_pyIter_list p.isList ?_
 refine ⟨s1.heap.objs.size,[s1.heap.objs.size],_,_,H1,rfl,I1.kept (t':=s1.toks) fun b o e=>Heap.get?_push_of_some _ e,X4 a _,⟨_,Heap.get?_push_size _ rfl,rfl,rfl⟩,fun b hb=>?_,q⟩
 have e:b=s1.heap.objs.size:=by simpa using hb
 subst e
 exact I1.fpOk (Nat.le_refl _) (I1.hok.fresh (Nat.le_refl _))
theorem bR {pins:List (Addr×Obj)} {σ:St} {H:Hp} {s:Shared} {R:It->Hp->Prop} {E:Value->Shared->Prop} {lo hi:Int} {t u v:Tok} {tk:Nat} (I:Inv X pins σ H s) (h1:-(2 ^ 62)≤lo) (h2:lo<2 ^ 62) (h3:-(2 ^ 62)≤hi) (h4:hi<2 ^ 62)
  (q:R (Itr lo (hi - lo).toNat) H):wpAny (model X.prog X.w) X.A (pyIter (.ref s.heap.objs.size)) (PIE X pins σ tg R) E {s with heap:=s.heap.push {cls:=.type "range",data:=.fields #[.int lo t,.int hi u,.int 1 v]},toks:=tk}:=by
 refine wpAny_pyIter_range (IsRange.new ..) (small_one h1 h2 h3 h4) ?_
 have I1:Inv X pins σ H {s with heap:=s.heap.push {cls:=.type "range",data:=.fields #[.int lo t,.int hi u,.int 1 v]},toks:=tk}:=I.kept fun b o e=>Heap.get?_push_of_some _ e
 refine ⟨(s.heap.push {cls:=.type "range",data:=.fields #[.int lo t,.int hi u,.int 1 v]}).objs.size,[(s.heap.push {cls:=.type "range",data:=.fields #[.int lo t,.int hi u,.int 1 v]}).objs.size],_,_,H,rfl,
  I1.kept (t':=tk) fun b o e=>Heap.get?_push_of_some _ e,U4 _ lo (hi - lo).toNat,?_,fun b hb=>?_,q⟩
 ·have e1:lo+((0:Nat):Int) * 1=lo:=by simp
  have e2:(((hi - lo).toNat:Nat):Int) - ((0:Nat):Int)=Builtin.Range.rangeSize lo hi 1:=by rw [rangeSize_one]; split <;> omega
  show IsRangeIter _ _ (lo+((0:Nat):Int) * 1) ((((hi - lo).toNat:Nat):Int) - ((0:Nat):Int)) 1
  rw [e1,e2]
  exact Heap.get?_push_size _ rfl
 ·have e:b=(s.heap.push {cls:=.type "range",data:=.fields #[.int lo t,.int hi u,.int 1 v]}).objs.size:=by simpa using hb
  subst e
  exact I1.fpOk (Nat.le_refl _) (I1.hok.fresh (Nat.le_refl _))
def iRng1 (ta:TA):TI:=fun σ H R=>ta σ H fun vs H1=>∃ j:Int,vs=[.int j]∧-(2 ^ 62)≤j∧j<2 ^ 62∧R (Itr 0 j.toNat) H1
theorem E1 {a:Expr} {ta:TA} {p pos:Pos} (hg:Gl X "range") (hm:X.mg "range"=none) (ha:PA X [a] ta) (hs:starEach [a] X.env=[(false,eval a X.env)]:=by rfl):PI X tg (.Call (.Name "range" p) [a] [] pos) (iRng1 ta):=by
 intro pins s σ H R I h
 refine Call_ (G3 I hg hm boot_range (PyProof.Rows.callWith_type1 (thn (ha pos pins s σ H _ I h) fun us s1 ⟨vs,H1,I1,r1,q1⟩=>?_) hs rfl))
 obtain ⟨j,e,q1,q2,q⟩:=q1
 subst e
 cases r1 with
 | cons r rr=>
   cases rr
   obtain ⟨t,rfl⟩:=r
   exact call_range_1 (bR I1 (by omega) (by omega) q1 q2 (by simpa using q))
def tFor (wi:TI) (g:TG) (tb:TS):TS:=fun D σ H=>wi σ H fun J H1=>∃ W:Nat->Nat->St->Hp->Prop,(∃ m,W 0 m σ H1)∧∀ i m σ H,W i m σ H ->
 (J.stop i H∧D.nx σ H)∨(J.go i H∧∃ N:St->Hp->Prop,(∀ σ' H',N σ' H'->∃ m',m'<m∧W (i+1) m' σ' H')∧∀ x H',J.yld i H x H'->g x σ H' fun σ2 H2=>tb {D with nx:=N,ct:=N,bk:=D.nx} σ2 H2)
def N4 (fp:List Addr) (h:Heap):List (Addr×Obj):=fp.filterMap fun b=>(h.get? b).map fun o=>(b,o)
theorem Fk {fp:List Addr} {h:Heap} {b:Addr} {o:Obj} (hb:b∈fp) (e:h.get? b=some o):(b,o)∈N4 fp h:=List.mem_filterMap.mpr ⟨b,hb,by rw [e]; rfl⟩
theorem Y2 {fp:List Addr} {h:Heap} {p:Addr×Obj} (hp:p∈N4 fp h):p.1∈fp∧h.get? p.1=some p.2:=by
 obtain ⟨b,hb,e⟩:=List.mem_filterMap.mp hp
 cases q:h.get? b with
 | none=>rw [q] at e; cases e
 | some o=>
   rw [q] at e
   have e':(b,o)=p:=Option.some.inj e
   subst e'
   exact ⟨hb,q⟩
theorem Inv.pinned {pins:List (Addr×Obj)} {σ:St} {H:Hp} {s:Shared} {fp:List Addr} (I:Inv X pins σ H s) (hf:∀ b∈fp,FpOk X pins H b) (ho:∀ b∈fp,∃ o,s.heap.get? b=some o∧∀ v,o.data≠.cell v):Inv X (pins++N4 fp s.heap) σ H s:=
 I.pins_of fun p hp=>(List.mem_append.mp hp).elim (fun z=>I.pin p (List.mem_append_right _ z)) fun z=>by
  obtain ⟨hb,e⟩:=Y2 z
  obtain ⟨f0,f1,f2,_⟩:=hf p.1 hb
  obtain ⟨o,e',d⟩:=ho p.1 hb
  rw [e] at e'; cases e'
  exact ⟨e,f0,f1,f2,d⟩
theorem Inv.unpinned {pins pl:List (Addr×Obj)} {σ:St} {H:Hp} {s:Shared} (I:Inv X (pins++pl) σ H s):Inv X pins σ H s:=I.pins_of fun p hp=>I.pin p (List.mem_append_right _ (List.mem_append_left _ hp))
theorem Ko {iter:Expr} {body:List Stmt} {wi:TI} {g:TG} {tb:TS} {pos:Pos} (hp:PassesOwn (model X.prog X.w) X.A X.env X.xe) (hc:X.calm=true) (hi:PI X tg iter wi) (hg:PG X tg g) (hb:PSs X body tb)
  (hs:∀ x,foldedSetIterable iter X.env x=pure x:=by intro _; rfl):PS X (.For tg iter body [] pos) (tFor wi g tb):=by
 intro pins s σ H D I h
 refine wpAny_For (thn (hi pins s σ H _ I h) fun v s1 h1=>thn h1 fun itv s2 h2=>?_) hs
 obtain ⟨it,fp,tn,J,H2,e,I2,T,st2,f2,W,⟨m0,w0⟩,turn⟩:=h2
 subst e
 have stat:∀ {H':Hp},(∀ b∈fp,H' b=none)->∀ b∈fp,FpOk X pins H' b:=fun hn b hb=>⟨hn b hb,(f2 b hb).2⟩
 refine codeAny_forLoop_any (fun n s'=>∃ i σ' H',Inv X pins σ' H' s'∧tn i s'.heap∧(∀ b∈fp,H' b=none)∧W i n σ' H') ?_ m0 ⟨0,σ,H2,I2,st2,fun b hb=>(f2 b hb).1,w0⟩
 rintro n s3 ⟨i,σ3,H3,I3,st3,fr3,w3⟩
 rcases turn i n σ3 H3 w3 with ⟨stop,qn⟩ | ⟨go,N,hN,step⟩
 ·refine wpAny_passesOwn hp (thn (T.done X rfl rfl rfl hc i pins s3 σ3 H3 X.xe I3 (stat fr3) st3 stop) fun r s4 ⟨hr,I4⟩=>?_)
  subst hr
  exact wpAny_execs_nil ⟨σ3,H3,I4,qn⟩
 ·refine wpAny_passesOwn hp (thn (T.item X rfl rfl rfl hc i pins s3 σ3 H3 X.xe I3 (stat fr3) st3 go) fun r s4 ⟨u,hr,h4⟩=>?_)
  subst hr
  refine wpAny_passesOwn hp (thn h4 fun _ s5 ⟨x,H5,I5,r5,y5,st5,fr5⟩=>?_)
  have I5':=I5.pinned (stat fr5) (T.obj _ _ st5)
  refine wpAny_passesOwn hp (thn (hg _ s5 σ3 H5 x u _ I5' r5 (step x H5 y5)) fun _ s6 ⟨σ6,H6,I6,q6⟩=>?_)
  refine wpAny_passesOwn hp (thn (hb _ s6 σ6 H6 _ I6 q6) fun f s7 q7=>?_)
  have again:∀ {σ7:St} {H7:Hp},Inv X (pins++N4 fp s5.heap) σ7 H7 s7->N σ7 H7->∃ m,m<n∧∃ i σ' H',Inv X pins σ' H' s7∧tn i s7.heap∧(∀ b∈fp,H' b=none)∧W i m σ' H':=fun {σ7 H7} I7 n7=>by
   obtain ⟨m',hm,w7⟩:=hN σ7 H7 n7
   refine ⟨m',hm,i+1,σ7,H7,I7.unpinned,T.keep _ _ _ st5 fun b hb o e=>(I7.pin (b,o) (List.mem_append_right _ (List.mem_append_right _ (Fk hb e)))).1,fun b hb=>?_,w7⟩
   obtain ⟨o,e,d⟩:=T.obj _ _ st5 b hb
   exact (I7.pin (b,o) (List.mem_append_right _ (List.mem_append_right _ (Fk hb e)))).2.1
  cases f with
  | next=>obtain ⟨σ7,H7,I7,n7⟩:=q7; exact again I7 n7
  | cont=>obtain ⟨σ7,H7,I7,n7⟩:=q7; exact again I7 n7
  | brk=>obtain ⟨σ7,H7,I7,q7⟩:=q7; exact ⟨σ7,H7,I7.unpinned,q7⟩
  | ret v=>obtain ⟨x7,σ7,H7,I7,r7,q7⟩:=q7; exact ⟨x7,σ7,H7,I7.unpinned,r7,q7⟩
end
theorem Ot {K:PySem.W.Frag} {a:Addr} {xs:List V} {g:TG} {tb:TS} {D:Ends} {σ:St} {H:Hp} (Pv:Nat->St->Hp->Prop) (h0:Pv 0 σ H) (hl:∀ i σ H,i≤xs.length->Pv i σ H->SqL K H a xs)
  (hs:∀ i x σ H,xs[i]?=some x->Pv i σ H->g x σ H fun σ2 H2=>tb {D with nx:=Pv (i+1),ct:=Pv (i+1),bk:=D.nx} σ2 H2) (hd:∀ σ H,Pv xs.length σ H->D.nx σ H) :
  ∃ W:Nat->Nat->St->Hp->Prop,(∃ m,W 0 m σ H)∧∀ i m σ H,W i m σ H ->
   ((Itl K a).stop i H∧D.nx σ H)∨((Itl K a).go i H∧∃ N:St->Hp->Prop,(∀ σ' H',N σ' H'->∃ m',m'<m∧W (i+1) m' σ' H')∧∀ x H',(Itl K a).yld i H x H'->g x σ H' fun σ2 H2=>tb {D with nx:=N,ct:=N,bk:=D.nx} σ2 H2):=by
 refine ⟨fun i m σ H=>m=xs.length - i∧i≤xs.length∧Pv i σ H,⟨xs.length,by simp,Nat.zero_le _,h0⟩,?_⟩
 rintro i m σ H ⟨rfl,hi,p⟩
 have q:=hl i σ H hi p
 by_cases hlt:i<xs.length
 ·refine .inr ⟨⟨xs,xs[i],q,by simp [hlt]⟩,Pv (i+1),fun σ' H' p'=>⟨xs.length - (i+1),by omega,rfl,hlt,p'⟩,fun x H' y=>?_⟩
  obtain ⟨e,y⟩:=y
  subst e
  exact hs i x σ _ (y xs q) p
 ·have e:i=xs.length:=by omega
  subst e
  exact .inl ⟨⟨xs,q,Nat.le_refl _⟩,hd σ H p⟩
theorem Zh {lo:Int} {n:Nat} {g:TG} {tb:TS} {D:Ends} {σ:St} {H:Hp} (Pv:Nat->St->Hp->Prop) (h0:Pv 0 σ H)
  (hs:∀ i σ H,i<n->Pv i σ H->g (.int (lo+i)) σ H fun σ2 H2=>tb {D with nx:=Pv (i+1),ct:=Pv (i+1),bk:=D.nx} σ2 H2) (hd:∀ σ H,Pv n σ H->D.nx σ H) :
  ∃ W:Nat->Nat->St->Hp->Prop,(∃ m,W 0 m σ H)∧∀ i m σ H,W i m σ H ->
   ((Itr lo n).stop i H∧D.nx σ H)∨((Itr lo n).go i H∧∃ N:St->Hp->Prop,(∀ σ' H',N σ' H'->∃ m',m'<m∧W (i+1) m' σ' H')∧∀ x H',(Itr lo n).yld i H x H'->g x σ H' fun σ2 H2=>tb {D with nx:=N,ct:=N,bk:=D.nx} σ2 H2):=by
 refine ⟨fun i m σ H=>m=n - i∧i≤n∧Pv i σ H,⟨n,by simp,Nat.zero_le _,h0⟩,?_⟩
 rintro i m σ H ⟨rfl,hi,p⟩
 by_cases hlt:i<n
 ·refine .inr ⟨hlt,Pv (i+1),fun σ' H' p'=>⟨n - (i+1),by omega,rfl,hlt,p'⟩,fun x H' y=>?_⟩
  obtain ⟨e,y⟩:=y
  subst e y
  exact hs i σ _ hlt p
 ·have e:i=n:=by omega
  subst e
  exact .inl ⟨Nat.le_refl _,hd σ H p⟩
end L2
namespace L2
open PySem PySem.Spec PyProof.Rows
abbrev R2:=V->V->Hp->VK->Prop
def OpR (X:Cx) (f:Value->Value->Sem Value) (r:R2):Prop:=
 ∀ (pins:List (Addr×Obj)) (s:Shared) (σ:St) (H:Hp) (x y:V) (v u:Value) (Q:VK),Inv X pins σ H s->RelV x v->RelV y u->r x y H Q ->
  wpAny (model X.prog X.w) X.A (f v u) (EP X pins σ Q) X.xe s
def UnR (X:Cx) (f:Value->Sem Value) (r:V->Hp->VK->Prop):Prop:=
 ∀ (pins:List (Addr×Obj)) (s:Shared) (σ:St) (H:Hp) (x:V) (v:Value) (Q:VK),Inv X pins σ H s->RelV x v->r x H Q ->
  wpAny (model X.prog X.w) X.A (f v) (EP X pins σ Q) X.xe s
def D4 (X:Cx) (f:Value) (r:List V->Hp->VK->Prop):Prop:=
 ∀ (pins:List (Addr×Obj)) (s:Shared) (σ:St) (H:Hp) (xs:List V) (us:List Value) (Q:VK),Inv X pins σ H s->Vals xs us->r xs H Q ->
  wpAny (model X.prog X.w) X.A (call f us) (EP X pins σ Q) X.xe s
def TruR (X:Cx) (r:V->Hp->(Bool->Hp->Prop)->Prop):Prop:=
 ∀ (pins:List (Addr×Obj)) (s:Shared) (σ:St) (H:Hp) (x:V) (v:Value) (Q:Bool->Hp->Prop),Inv X pins σ H s->RelV x v->r x H Q ->
  wpAny (model X.prog X.w) X.A (truthy v) (TP X pins σ Q) X.xe s
def tOp (r:R2) (ta tb:TE):TE:=fun σ H Q=>ta σ H fun x H1=>tb σ H1 fun y H2=>r x y H2 Q
def tUn (r:V->Hp->VK->Prop) (ta:TE):TE:=fun σ H Q=>ta σ H fun x H1=>r x H1 Q
def rI (C:Int->Int->Prop) (g:Int->Int->V):R2:=fun x y H Q=>∃ i j,x=.int i∧y=.int j∧C i j∧Q (g i j) H
def rI0 (g:Int->Int->V):R2:=fun x y H Q=>∃ i j,x=.int i∧y=.int j∧Q (g i j) H
def rU (g:Int->V):V->Hp->VK->Prop:=fun x H Q=>∃ i,x=.int i∧Q (g i) H
section
variable {X:Cx} {a b c:Expr} {ta tb tc:TE} {pos:Pos}
theorem binT (ha:PE X a ta) (hb:PE X b tb) {pins:List (Addr×Obj)} {s:Shared} {σ:St} {H:Hp} {R:V->V->Hp->Prop} (I:Inv X pins σ H s)
  (h:ta σ H fun x H1=>tb σ H1 fun y H2=>R x y H2) {Q:Value->Shared->Prop} {f:Value->Value->Sem Value}
  (hf:∀ v u s2 x y H2,Inv X pins σ H2 s2->RelV x v->RelV y u->R x y H2->wpAny (model X.prog X.w) X.A (f v u) Q X.xe s2) :
  wpAny (model X.prog X.w) X.A (eval a X.env) (fun v s₁=>wpAny (model X.prog X.w) X.A (eval b X.env) (fun u s₂=>wpAny (model X.prog X.w) X.A (f v u) Q X.xe s₂) X.xe s₁) X.xe s:=by
 refine thn (ha pins s σ H _ I h) fun v s1 ⟨x,H1,I1,r1,q1⟩=>?_
 refine thn (hb pins s1 σ H1 _ I1 q1) fun u s2 ⟨y,H2,I2,r2,q2⟩=>?_
 exact hf v u s2 x y H2 I2 r1 r2 q2
theorem Ai {op:Operator} {r:R2} (ho:OpR X (binaryOp op) r) (ha:PE X a ta) (hb:PE X b tb):PE X (.BinOp a op b pos) (tOp r ta tb):=by
 intro pins s σ H Q I h
 exact wpAny_BinOp (binT ha hb I h fun v u s2 x y H2 I2 rx ry q=>ho pins s2 σ H2 x y v u Q I2 rx ry q)
theorem pe_un {op:UnaryOp} {r:V->Hp->VK->Prop} (ho:UnR X (unaryOp op) r) (ha:PE X a ta):PE X (.UnaryOp op a pos) (tUn r ta):=by
 intro pins s σ H Q I h
 exact UnaryOp_ (thn (ha pins s σ H _ I h) fun v s1 ⟨x,H1,I1,r1,q1⟩=>ho pins s1 σ H1 x v Q I1 r1 q1)
theorem opI {f:Value->Value->Sem Value} {C:Int->Int->Prop} {g:Int->Int->Int}
  (rule:∀ (i j:Int) (t u:Tok) (s:Shared) (Q:Value->Shared->Prop) (E:Value->Shared->Prop),C i j->Q (.int (g i j) s.toks) {s with toks:=s.toks+1}->wpAny (model X.prog X.w) X.A (f (.int i t) (.int j u)) Q E s) :
  OpR X f (rI C fun i j=>.int (g i j)):=by
 intro pins s σ H x y v u Q I rx ry h
 obtain ⟨i,j,rfl,rfl,hc,q⟩:=h
 obtain ⟨t,rfl⟩:=rx
 obtain ⟨t',rfl⟩:=ry
 exact rule i j t t' s _ _ hc ⟨.int (g i j),H,I.tok _,⟨_,rfl⟩,q⟩
theorem opI0 {f:Value->Value->Sem Value} {g:Int->Int->Int}
  (rule:∀ (i j:Int) (t u:Tok) (s:Shared) (Q:Value->Shared->Prop) (E:Value->Shared->Prop),Q (.int (g i j) s.toks) {s with toks:=s.toks+1}->wpAny (model X.prog X.w) X.A (f (.int i t) (.int j u)) Q E s) :
  OpR X f (rI0 fun i j=>.int (g i j)):=by
 intro pins s σ H x y v u Q I rx ry h
 obtain ⟨i,j,rfl,rfl,q⟩:=h
 obtain ⟨t,rfl⟩:=rx
 obtain ⟨t',rfl⟩:=ry
 exact rule i j t t' s _ _ ⟨.int (g i j),H,I.tok _,⟨_,rfl⟩,q⟩
theorem opB0 {f:Value->Value->Sem Value} {g:Int->Int->Bool}
  (rule:∀ (i j:Int) (t u:Tok) (s:Shared) (Q:Value->Shared->Prop) (E:Value->Shared->Prop),Q (.bool (g i j)) s->wpAny (model X.prog X.w) X.A (f (.int i t) (.int j u)) Q E s) :
  OpR X f (rI0 fun i j=>.bl (g i j)):=by
 intro pins s σ H x y v u Q I rx ry h
 obtain ⟨i,j,rfl,rfl,q⟩:=h
 obtain ⟨t,rfl⟩:=rx
 obtain ⟨t',rfl⟩:=ry
 exact rule i j t t' s _ _ ⟨.bl (g i j),H,I,rfl,q⟩
def CDiv (i j:Int):Prop:=0<j∧j<1073741824
def CPow (i j:Int):Prop:=0≤j∧j≤1000000∧i.natAbs<2 ^ 64
def CMul (i j:Int):Prop:=(-(2 ^ 64)<i∧i<2 ^ 64)∨(-(2 ^ 64)<j∧j<2 ^ 64)
theorem CMul.ok {i j:Int} (h:CMul i j):IntMulOk i j:=by
 rcases h with ⟨h1,h2⟩ | ⟨h1,h2⟩
 ·exact .of_left (intBits_le_64 h1 h2)
 ·exact .of_right (intBits_le_64 h1 h2)
theorem Bj:OpR X (binaryOp .Add) (rI0 fun i j=>.int (i+j)):=opI0 fun _ _ _ _ _ _ _ q=>add_int q
theorem Kp:OpR X (binaryOp .Sub) (rI0 fun i j=>.int (i - j)):=opI0 fun _ _ _ _ _ _ _ q=>sub_int q
theorem Dq:OpR X (binaryOp .Mult) (rI CMul fun i j=>.int (i * j)):=opI fun _ _ _ _ _ _ _ hc q=>mul_int q hc.ok
theorem A9:OpR X (binaryOp .FloorDiv) (rI CDiv fun i j=>.int (i / j)):=opI fun i j _ _ _ _ _ hc q=>by
 have h1:(0:Int)<j:=hc.1
 have h2:j<1073741824:=hc.2
 exact floordiv_int (by omega) (by rw [Int.fdiv_eq_ediv_of_nonneg i (by omega)]; exact q) (.inl (PyProof.noPylong_small (by omega)))
theorem Ba:OpR X (binaryOp .Mod) (rI (fun _ j=>0<j) fun i j=>.int (i % j)):=opI fun i j _ _ _ _ _ hc q=>by
 have h1:(0:Int)<j:=hc
 exact mod_int' (by omega) (by rw [Int.fmod_eq_emod_of_nonneg i (by omega)]; exact q)
theorem Cc:OpR X (binaryOp .Pow) (rI CPow fun i j=>.int (i ^ j.toNat)):=opI fun _ _ _ _ _ _ _ hc q=>pow_int_small hc.1 hc.2.1 hc.2.2 q
theorem unI {f:Value->Sem Value} {g:Int->Int}
  (rule:∀ (i:Int) (t:Tok) (s:Shared) (Q:Value->Shared->Prop) (E:Value->Shared->Prop),Q (.int (g i) s.toks) {s with toks:=s.toks+1}->wpAny (model X.prog X.w) X.A (f (.int i t)) Q E s) :
  UnR X f (rU fun i=>.int (g i)):=by
 intro pins s σ H x v Q I rx h
 obtain ⟨i,rfl,q⟩:=h
 obtain ⟨t,rfl⟩:=rx
 exact rule i t s _ _ ⟨.int (g i),H,I.tok _,⟨_,rfl⟩,q⟩
theorem iS:UnR X (unaryOp .USub) (rU fun i=>.int (-i)):=unI fun _ _ _ _ _ q=>neg_int q
end
def scal:V->V->Bool
 | .non,.non=>true | .non,.int _=>true | .int _,.non=>true | .non,.bl _=>true | .bl _,.non=>true | .non,.str _=>true | .str _,.non=>true
 | .int _,.int _=>true | .bl _,.bl _=>true | .str _,.str _=>true | .byt _,.byt _=>true
 | .int _,.str _=>true | .str _,.int _=>true | .bl _,.str _=>true | .str _,.bl _=>true
 | _,_=>false
def rEq:R2:=fun x y H Q=>scal x y=true∧Q (.bl (decide (x=y))) H
def rNe:R2:=fun x y H Q=>scal x y=true∧Q (.bl (!decide (x=y))) H
theorem Xx {i j:Int}:decide (V.int i=V.int j)=(i==j):=by
 rw [Bool.eq_iff_iff]
 simp
theorem eP {i j:Bool}:decide (V.bl i=V.bl j)=(i==j):=by
 rw [Bool.eq_iff_iff]
 simp
theorem Xw {i j:Str}:decide (V.str i=V.str j)=(i==j):=by
 rw [Bool.eq_iff_iff]
 simp
theorem Xy {i j:Array UInt8}:decide (V.byt i=V.byt j)=(i.toList==j.toList):=by
 rw [Bool.eq_iff_iff]
 cases i
 cases j
 simp
section
variable {X:Cx} {a b c:Expr} {ta tb tc:TE} {pos:Pos}
theorem A8 {pins:List (Addr×Obj)} {σ:St} {H:Hp} {s:Shared} {Q:VK} {k k':Bool} (I:Inv X pins σ H s) (q:Q (.bl k) H) (e:k=k'):EP X pins σ Q (.bool k') s:=by
 subst e
 exact ⟨.bl k,H,I,rfl,q⟩
theorem Bo:OpR X (compareOp .Eq) rEq:=by
 intro pins s σ H x y v u Q I rx ry h
 obtain ⟨hs,q⟩:=h
 cases x with
 | non=>
   cases rx
   cases y with
   | non=>cases ry; exact PySem.EqNone.eq_none_none (A8 I q (by simp))
   | bl j=>cases ry; exact PySem.EqNone.eq_none_bool (A8 I q (by simp))
   | int j=>obtain ⟨t',rfl⟩:=ry; exact PySem.EqNone.eq_none_int (A8 I q (by simp))
   | str j=>obtain ⟨t',rfl⟩:=ry; exact PySem.EqNone.eq_none_str (A8 I q (by simp))
   | _=>exact absurd (show false=true from hs) Bool.false_ne_true
 | bl i=>
   cases rx
   cases y with
   | non=>cases ry; exact PySem.EqNone.eq_bool_none (A8 I q (by simp))
   | bl j=>cases ry; exact eq_bool (A8 I q eP)
   | str j=>obtain ⟨t',rfl⟩:=ry; exact PySem.EqMixed.eq_bool_str (A8 I q (by simp))
   | _=>exact absurd (show false=true from hs) Bool.false_ne_true
 | int i=>
   obtain ⟨t,rfl⟩:=rx
   cases y with
   | non=>cases ry; exact PySem.EqNone.eq_int_none (A8 I q (by simp))
   | int j=>obtain ⟨t',rfl⟩:=ry; exact eq_int (A8 I q Xx)
   | str j=>obtain ⟨t',rfl⟩:=ry; exact PySem.EqMixed.eq_int_str (A8 I q (by simp))
   | _=>exact absurd (show false=true from hs) Bool.false_ne_true
 | str i=>
   obtain ⟨t,rfl⟩:=rx
   cases y with
   | non=>cases ry; exact PySem.EqNone.eq_str_none (A8 I q (by simp))
   | bl j=>cases ry; exact PySem.EqMixed.eq_str_bool (A8 I q (by simp))
   | int j=>obtain ⟨t',rfl⟩:=ry; exact PySem.EqMixed.eq_str_int (A8 I q (by simp))
   | str j=>obtain ⟨t',rfl⟩:=ry; exact eq_str (A8 I q Xw)
   | _=>exact absurd (show false=true from hs) Bool.false_ne_true
 | byt i=>
   obtain ⟨t,rfl⟩:=rx
   cases y with
   | byt j=>obtain ⟨t',rfl⟩:=ry; exact PySem.W.eq_bytes (A8 I q Xy)
   | _=>exact absurd (show false=true from hs) Bool.false_ne_true
 | _=>cases y <;> exact absurd (show false=true from hs) Bool.false_ne_true
theorem Ub:OpR X (compareOp .NotEq) rNe:=by
 intro pins s σ H x y v u Q I rx ry h
 obtain ⟨hs,q⟩:=h
 cases x with
 | non=>
   cases rx
   cases y with
   | non=>cases ry; exact PySem.EqNone.ne_none_none (A8 I q (by simp))
   | bl j=>cases ry; exact PySem.EqNone.ne_none_bool (A8 I q (by simp))
   | int j=>obtain ⟨t',rfl⟩:=ry; exact PySem.EqNone.ne_none_int (A8 I q (by simp))
   | str j=>obtain ⟨t',rfl⟩:=ry; exact PySem.EqNone.ne_none_str (A8 I q (by simp))
   | _=>exact absurd (show false=true from hs) Bool.false_ne_true
 | bl i=>
   cases rx
   cases y with
   | non=>cases ry; exact PySem.EqNone.ne_bool_none (A8 I q (by simp))
   | bl j=>cases ry; exact ne_bool (A8 I q (congrArg not eP))
   | str j=>obtain ⟨t',rfl⟩:=ry; exact PySem.EqMixed.ne_bool_str (A8 I q (by simp))
   | _=>exact absurd (show false=true from hs) Bool.false_ne_true
 | int i=>
   obtain ⟨t,rfl⟩:=rx
   cases y with
   | non=>cases ry; exact PySem.EqNone.ne_int_none (A8 I q (by simp))
   | int j=>obtain ⟨t',rfl⟩:=ry; exact ne_int (A8 I q (congrArg not Xx))
   | str j=>obtain ⟨t',rfl⟩:=ry; exact PySem.EqMixed.ne_int_str (A8 I q (by simp))
   | _=>exact absurd (show false=true from hs) Bool.false_ne_true
 | str i=>
   obtain ⟨t,rfl⟩:=rx
   cases y with
   | non=>cases ry; exact PySem.EqNone.ne_str_none (A8 I q (by simp))
   | bl j=>cases ry; exact PySem.EqMixed.ne_str_bool (A8 I q (by simp))
   | int j=>obtain ⟨t',rfl⟩:=ry; exact PySem.EqMixed.ne_str_int (A8 I q (by simp))
   | str j=>obtain ⟨t',rfl⟩:=ry; exact ne_str (A8 I q (congrArg not Xw))
   | _=>exact absurd (show false=true from hs) Bool.false_ne_true
 | byt i=>
   obtain ⟨t,rfl⟩:=rx
   cases y with
   | byt j=>obtain ⟨t',rfl⟩:=ry; exact PySem.W.ne_bytes (A8 I q (congrArg not Xy))
   | _=>exact absurd (show false=true from hs) Bool.false_ne_true
 | _=>cases y <;> exact absurd (show false=true from hs) Bool.false_ne_true
theorem K9:OpR X (compareOp .Lt) (rI0 fun i j=>.bl (decide (i<j))):=opB0 fun _ _ _ _ _ _ _ q=>lt_int q
theorem Jy:OpR X (compareOp .LtE) (rI0 fun i j=>.bl (decide (i≤j))):=opB0 fun _ _ _ _ _ _ _ q=>le_int q
theorem iM:OpR X (compareOp .Gt) (rI0 fun i j=>.bl (decide (j<i))):=opB0 fun _ _ _ _ _ _ _ q=>gt_int q
theorem Rx:OpR X (compareOp .Is) (fun x y H Q=>y=.non∧Q (.bl (decide (x=.non))) H):=by
 intro pins s σ H x y v u Q I rx ry h
 obtain ⟨rfl,q⟩:=h
 cases ry
 refine is_none_gen (A8 I q ?_)
 cases x <;> first
  | (cases rx; rfl)
  | (obtain ⟨t,rfl⟩:=rx; rfl)
theorem Mo:OpR X (compareOp .IsNot) (fun x y H Q=>y=.non∧Q (.bl (!decide (x=.non))) H):=by
 intro pins s σ H x y v u Q I rx ry h
 obtain ⟨rfl,q⟩:=h
 cases ry
 refine isnot_none_gen (A8 I q ?_)
 cases x <;> first
  | (cases rx; rfl)
  | (obtain ⟨t,rfl⟩:=rx; rfl)
theorem Au (b:Expr) {op:CmpOp} (h:op≠.In:=by decide) (h2:op≠.NotIn:=by decide):behindInMarks op b=false:=by
 have e1:(op==CmpOp.In)=false:=by cases op <;> first | rfl | exact absurd rfl h
 have e2:(op==CmpOp.NotIn)=false:=by cases op <;> first | rfl | exact absurd rfl h2
 cases b <;> simp [behindInMarks,e1,e2]
theorem Ep {op:CmpOp} {r:R2} (ho:OpR X (compareOp op) r) (ha:PE X a ta) (hb:PE X b tb) (hm:behindInMarks op b=false):PE X (.Compare a [op] [b] pos) (tOp r ta tb):=by
 intro pins s σ H Q I h
 exact wpAny_Compare1 (binT ha hb I h fun v u s2 x y H2 I2 rx ry q=>ho pins s2 σ H2 x y v u Q I2 rx ry q) hm
def tTest (t:TE):TT:=fun σ H Q=>t σ H fun x H'=>∃ k,x=.bl k∧Q k H'
theorem Ar {op:CmpOp} {r:R2} (ho:OpR X (compareOp op) r) (ha:PE X a ta) (hb:PE X b tb) (hm:behindInMarks op b=false):PT X (.Compare a [op] [b] pos) (tTest (tOp r ta tb)):=by
 intro pins s σ H Q I h
 refine wpAny_isTrue_Compare1 (thn (ha pins s σ H _ I h) fun v s1 ⟨x,H1,I1,r1,q1⟩=>thn (hb pins s1 σ H1 _ I1 q1) fun u s2 ⟨y,H2,I2,r2,q2⟩=>
  thn (ho pins s2 σ H2 x y v u _ I2 r1 r2 q2) fun c s3 ⟨z,H3,I3,r3,k,e,q3⟩=>?_) hm
 subst e
 cases r3
 exact wpAny_truthy_bool ⟨H3,I3,q3⟩
def jB (r r':R2) (ta tb tc:TE):TE:=fun σ H Q=>ta σ H fun x H1=>tb σ H1 fun y H2=>r x y H2 fun z H3=>∃ k,z=.bl k ∧
 (if k=true then tc σ H3 fun w' H4=>r' y w' H4 Q else Q (.bl false) H3)
theorem E2 {op op':CmpOp} {r r':R2} (ho:OpR X (compareOp op) r) (ho':OpR X (compareOp op') r') (ha:PE X a ta) (hb:PE X b tb) (hc:PE X c tc)
  (hm:lastMarks [op,op'] [b,c]=false:=by with_unfolding_all rfl):PE X (.Compare a [op,op'] [b,c] pos) (jB r r' ta tb tc):=by
 intro pins s σ H Q I h
 refine Compare_chain (thn (ha pins s σ H _ I h) fun v s1 ⟨x,H1,I1,r1,q1⟩=>chain_link (thn (hb pins s1 σ H1 _ I1 q1) fun u s2 ⟨y,H2,I2,r2,q2⟩=>
  thn (ho pins s2 σ H2 x y v u _ I2 r1 r2 q2) fun d s3 ⟨z,H3,I3,r3,k,e,q3⟩=>?_)) hm
 subst e
 cases r3
 refine wpAny_truthy_bool ?_
 cases k with
 | false=>exact ite_ff ⟨.bl false,H3,I3,rfl,q3⟩
 | true=>exact ite_tt (chain_last (thn (hc pins s3 σ H3 _ I3 q3) fun w' s4 ⟨z',H4,I4,r4,q4⟩=>ho' pins s4 σ H4 y z' u w' Q I4 r2 r4 q4))
def TruV (K:PySem.W.Frag) (x:V) (H:Hp) (k:Bool):Prop:=
 match x with
 | .non=>k=false
 | .bl b=>k=b
 | .int i=>k=(i != 0)
 | .str y=>y.length≤sizeLine∧k=((y.length:Int) != 0)
 | .byt y=>y.size≤sizeLine∧k=((y.size:Int) != 0)
 | .ref p=>(∃ xs,SqL K H p xs∧k=!xs.isEmpty)∨(∃ xs,SqT K H p xs∧k=!xs.isEmpty)∨∃ kvs,H p=some (.dK kvs)∧k=!kvs.isEmpty
 | _=>False
theorem Wc {κ:Type} {kvs:List (κ×V)} {vs:List (κ×Value)} (r:KV kvs vs):(!vs.isEmpty)=!kvs.isEmpty:=by
 cases r <;> rfl
theorem On {xs:List V} {its:List Value} (r:Vals xs its):(!its.toArray.isEmpty)=!xs.isEmpty:=by
 cases r <;> simp
theorem Gz:(sizeLine:Nat)<2 ^ 63:=by rw [sizeLine_eq]; decide
theorem iT:TruR X (fun x H Q=>∃ k,TruV X.K x H k∧Q k H):=by
 intro pins s σ H x v Q I rx h
 obtain ⟨k,e,q⟩:=h
 have hl:=Gz
 have hs:sizeLine=16777216:=sizeLine_eq
 cases x with
 | non=>
   cases rx
   have e':k=false:=e
   subst e'
   exact truthy_none ⟨H,I,q⟩
 | bl b=>
   cases rx
   have e':k=b:=e
   subst e'
   exact wpAny_truthy_bool ⟨H,I,q⟩
 | int i=>
   obtain ⟨t,rfl⟩:=rx
   have e':k=(i != 0):=e
   subst e'
   exact PySem.P.truthy_int ⟨H,I,q⟩
 | str y=>
   obtain ⟨t,rfl⟩:=rx
   obtain ⟨hy,e'⟩:y.length≤sizeLine∧k=((y.length:Int) != 0):=e
   subst e'
   exact PySem.P.truthy_str (by omega) ⟨H,I.tok _,q⟩
 | byt y=>
   obtain ⟨t,rfl⟩:=rx
   obtain ⟨hy,e'⟩:y.size≤sizeLine∧k=((y.size:Int) != 0):=e
   subst e'
   exact PySem.W.truthy_bytes (by omega) ⟨H,I.tok _,q⟩
 | ref p=>
   cases rx
   have e':(∃ xs,SqL X.K H p xs∧k=!xs.isEmpty)∨(∃ xs,SqT X.K H p xs∧k=!xs.isEmpty)∨∃ kvs,H p=some (.dK kvs)∧k=!kvs.isEmpty:=e
   rcases e' with ⟨xs,hx,e'⟩ | ⟨xs,hx,e'⟩ | ⟨kvs,hx,e'⟩
   ·subst e'
    obtain ⟨its,r,pl,hz⟩:=I.list hx
    have hlen:=r.length
    exact wpAny_truthy_list pl.isList (by simp only [List.size_toArray]; omega) ⟨H,I.tok _,by rw [On r]; exact q⟩
   ·subst e'
    obtain ⟨its,r,pl,hz⟩:=I.tuple hx
    have hlen:=r.length
    exact truthy_tuple pl (by simp only [List.size_toArray]; omega) ⟨H,I.tok _,by rw [On r]; exact q⟩
   ·subst e'
    obtain ⟨hz,hS,vs,r,m⟩:kvs.length≤sizeLine∧(p==sysModules)=false∧∃ vs,KV kvs vs∧s.heap.DictOf (A6 X.prog X.w) p vs:=I.hok p _ hx
    have hlen:kvs.length=vs.length:=Paired.length r
    exact wpAny_truthy_dict hS m (by omega) ⟨H,I.tok _,by rw [Wc r]; exact q⟩
 | _=>exact (show False from e).elim
theorem bS (ha:PE X a ta) (he:∀ whole,isTrue a X.env whole=(do let v ← whole; standAt a.pos; holding [v] (truthy v))) :
  PT X a (fun σ H Q=>ta σ H fun x H'=>∃ k,TruV X.K x H' k∧Q k H'):=by
 intro pins s σ H Q I h
 exact isTrue_plain (thn (ha pins s σ H _ I h) fun v s1 ⟨x,H1,I1,r1,q1⟩=>iT pins s1 σ H1 x v Q I1 r1 q1) (he _)
theorem C6:OpR X (binaryOp .Add) (fun x y H Q=>∃ i j,x=.str i∧y=.str j∧i.length+j.length≤sizeLine∧Q (.str (i++j)) H):=by
 intro pins s σ H x y v u Q I rx ry h
 obtain ⟨i,j,rfl,rfl,hz,q⟩:=h
 obtain ⟨t,rfl⟩:=rx
 obtain ⟨t',rfl⟩:=ry
 exact add_str (fun t' tk=>⟨.str (i++j),H,I.tok _,⟨_,rfl⟩,q⟩) hz
theorem D3 {x:V} {us:List Value} (r:Vals [x] us):∃ u,us=[u]∧RelV x u:=by
 cases r with
 | cons r1 r2=>cases r2; exact ⟨_,rfl,r1⟩
theorem Th {x y:V} {us:List Value} (r:Vals [x,y] us):∃ u w',us=[u,w']∧RelV x u∧RelV y w':=by
 cases r with
 | cons r1 r2=>
   cases r2 with
   | cons r3 r4=>cases r4; exact ⟨_,_,rfl,r1,r3⟩
theorem Zy (hc:X.calm=true):D4 X (.builtin "min") (fun xs H Q=>∃ i j,xs=[.int i,.int j]∧Q (.int (if j<i then j else i)) H):=by
 intro pins s σ H xs us Q I r h
 obtain ⟨i,j,rfl,q⟩:=h
 obtain ⟨u,w',rfl,⟨t,rfl⟩,⟨t',rfl⟩⟩:=Th r
 refine min_two_ints (I.ok.hd hc) fun h' tk k=>⟨_,H,I.kept k,?_,q⟩
 by_cases hj:j<i
 ·rw [if_pos hj,if_pos hj]; exact ⟨_,rfl⟩
 ·rw [if_neg hj,if_neg hj]; exact ⟨_,rfl⟩
theorem Tb:D4 X (.type "str") (fun xs H Q=>∃ i,xs=[.int i]∧i.natAbs.log2<1920∧Q (.str (toString i)) H):=by
 intro pins s σ H xs us Q I r h
 obtain ⟨i,rfl,hz,q⟩:=h
 obtain ⟨u,rfl,t,rfl⟩:=D3 r
 exact PySem.P.str_of_int hz ⟨.str _,H,I.tok _,⟨_,rfl⟩,q⟩
end
end L2
namespace L2
open PySem PySem.Spec PyProof.Rows
structure ObjM (h:Heap) (x dx C:Addr) (mA:Str->Option Value):Prop where
 obj:h.get? x=some (PySem.W.instObj C dx)
 ns:h.Ns1 dx mA
 ne:dx≠x
theorem Y7 {h:Heap} {dx:Addr} {mA:Str->Option Value} (n:h.Ns1 dx mA):∃ od,h.get? dx=some od∧∀ name,PySem.W.lookIn name od=some (mA name):=by
 obtain ⟨o,es,ep,ho,hd,hk,_,hm⟩:=n
 refine ⟨o,ho,fun name=>?_⟩
 have e:=hm name
 unfold nsFind findBy at e
 rw [← Array.find?_toList] at e
 unfold PySem.W.lookIn
 rw [hd]
 dsimp only
 split
 ·rename_i y q
  rw [q] at e
  exact congrArg some e
 ·rename_i q
  rw [q] at e
  have a:es.toList.any (·.refKey)=false:=by
   rw [List.any_eq_false]
   intro y hy
   obtain ⟨z,t,hkey⟩:=hk y (Array.mem_toList_iff.mp hy)
   simp [DictEntry.refKey,hkey]
  have a':¬ es.toList.any (·.refKey)=true:=by rw [a]; exact Bool.false_ne_true
  rw [if_neg a']
  exact congrArg some e
theorem ObjM.look {h:Heap} {x dx C:Addr} {mA:Str->Option Value} (I:ObjM h x dx C mA):∃ od,PySem.W.InstAt h x (PySem.W.instObj C dx) C (some od)∧∀ name,PySem.W.lookIn name od=some (mA name):=
 let ⟨od,ho,hl⟩:=Y7 I.ns
 ⟨od,⟨I.obj,rfl,rfl,ho⟩,hl⟩
section
variable {prog:Program} {w:World} {A:Around} {E:Value->Shared->Prop} {s:Shared} {K:PySem.W.Frag} {x dx C f:Addr} {mA:Str->Option Value} {name:Str} {v:Value}
theorem hU {expr:Bool} {Q:Value->Shared->Prop} (X:K.In s.heap) (I:ObjM s.heap x dx C mA) (hg:PySem.W.plainGet K C name=true) (hh:PySem.W.hasDictIn K C=true)
  (ha:PySem.W.findIn K (.ref C) name=some none) (hv:mA name=some v) (hv':PySem.W.handedIn v=true) (h:Q v {s with toks:=s.toks+1}) :
  wpAny (model prog w) A (getAttr (.ref x) name expr) Q E s:=by
 obtain ⟨od,J,hl⟩:=I.look
 exact PySem.W.get_value X J (PySem.W.plainGet_of hg).1 (PySem.W.findObj_own hh ha rfl (by rw [hl,hv])) hv' h
theorem dN {pl:Sem Bool} {Q:Value×List Value->Shared->Prop} (X:K.In s.heap) (I:ObjM s.heap x dx C mA) (hg:PySem.W.plainGet K C name=true)
  (hf:PySem.W.findIn K (.ref C) name=some (some (.ref f))) (ht:PySem.W.isFn K (.ref f)=true) (hv:mA name=none) (h:Q (.ref f,[.ref x]) s) :
  wpAny (model prog w) A (getMethod (.ref x) name pl) Q E s:=by
 obtain ⟨od,J,hl⟩:=I.look
 exact PySem.W.method_fn X J (PySem.W.plainGet_of hg).1 (PySem.W.plainGet_of hg).2 hf (beq_iff_eq.mp ht) (by show (PySem.W.lookIn name od).map (·.isSome)=some false; rw [hl,hv]; rfl) h
theorem fH {ns:List Str} {Q:Unit->Shared->Prop} (X:K.In s.heap) (I:ObjM s.heap x dx C mA)
  (hs:PySem.W.findIn K (.ref C) "__setattr__"=some (some (.builtin "object.__setattr__"))) (hp:PySem.W.plainOver K C=true) (ht:PySem.W.takerIn K C name=some none) (hh:PySem.W.hasDictIn K C=true)
  (hw:PySem.Within mA ns) (hsz:ns.length≤sizeLine)
  (h:∀ h',ObjM h' x dx C (fun y=>if y=name then some v else mA y)->Heap.SameBut dx s.heap h'->Q () {s with heap:=h',toks:=s.toks+2}) :
  wpAny (model prog w) A (setAttr (.ref x) name v) Q E s:=by
 obtain ⟨od,J,hl⟩:=I.look
 refine PySem.W.set_plain X J hs (PySem.W.osa_open (s:={s with toks:=s.toks+1}) (r:=none) X J hp ht fun b=>?_)
 obtain ⟨cd,hc,hd'⟩:=PySem.W.any_some hh
 have hx:s.heap.get? x=some ⟨.ref C,some dx,.plain,#[]⟩:=I.obj
 refine wpAny_bind (wpAny_pure (wpAny_bind (wpAny_bind (wpAny_loadPart hx (wpAny_bind (PySem.W.Looks.here (s:={s with toks:=s.toks+1}) (PySem.W.looks_clsIn X hc) ?_))))))
 rw [hd']
 refine wpAny_pure (a:=some dx) (wpAny_bind (wpAny_pure (wpAny_bind ?_)))
 refine wpAny_nsSet1 (s:={s with toks:=s.toks+1}) I.ns fun h' hn2 hs2=>?_
 obtain ⟨oD,esD,epD,hoD,hdD,hcD⟩:=hn2.count (PySem.Within.cons name v hw)
 refine wpAny_bind (wpAny_lookBehind hoD (by rw [hdD]; exact pastItsLine_dict (Nat.le_trans hcD (by rw [List.length_cons]; omega))) ?_)
 exact wpAny_pure (h _ ⟨(hs2.2 _ (Ne.symm I.ne)).trans I.obj,hn2,I.ne⟩ hs2)
theorem dD {R:Result->Shared->Prop} {vs:List Value} {kw:List (Str×Value)} (X:K.In s.heap) (hm:PySem.W.makesIn K C=true)
  (hi:PySem.W.findIn K (.ref C) "__init__"=some (some (.ref f))) (hf:PySem.W.typeIn K (.ref f)=some (.type "function"))
  (h:codeAny (model prog w) (A.under (.builtin "type.__call__" ⟨.ref C::vs,kw⟩)) (.call (.ref f) ⟨.ref (s.heap.objs.size+1)::vs,kw⟩) (PySem.W.InitBack (s.heap.objs.size+1) R)
    {s with heap:=(s.heap.push PySem.W.emptyDict).push (PySem.W.instObj C s.heap.objs.size)}) :
  codeAny (model prog w) A (.call (.ref C) ⟨vs,kw⟩) R s:=by
 obtain ⟨hh,g,d,t,os⟩:=s
 exact PySem.W.make_core (PySem.W.makes_of X hm) (PySem.W.looks_findIn X hi) (fun self=>PySem.W.bind_fn X self hf) (.inl rfl) h
end
def putF (f:Str) (v:V):List (Str×V)->List (Str×V)
 | []=>[(f,v)]
 | (g,x)::r=>if g=f then (g,v)::r else (g,x)::putF f v r
theorem La (f g:Str) (v:V):∀ fs:List (Str×V),(putF f v fs).lookup g=if g=f then some v else fs.lookup g
 | []=>by
   show List.lookup g [(f,v)]=_
   by_cases h:g=f
   ·have hb:(g==f)=true:=beq_iff_eq.mpr h
    simp only [List.lookup,hb,if_pos h]
   ·have hb:(g==f)=false:=beq_eq_false_iff_ne.mpr h
    simp only [List.lookup,hb,if_neg h]
 | (k,x)::r=>by
  have ih:=La f g v r
  rw [show putF f v ((k,x)::r)=(if k=f then (k,v)::r else (k,x)::putF f v r) from rfl]
  by_cases hk:k=f
  ·rw [if_pos hk]
   by_cases h:g=k
   ·have hb:(g==k)=true:=beq_iff_eq.mpr h
    simp only [List.lookup,hb,if_pos (h.trans hk)]
   ·have hb:(g==k)=false:=beq_eq_false_iff_ne.mpr h
    simp only [List.lookup,hb,if_neg (fun e:g=f=>h (e.trans hk.symm))]
  ·rw [if_neg hk]
   by_cases h:g=k
   ·have hb:(g==k)=true:=beq_iff_eq.mpr h
    simp only [List.lookup,hb,if_neg (fun e:g=f=>hk (h.symm.trans e))]
   ·have hb:(g==k)=false:=beq_eq_false_iff_ne.mpr h
    simp only [List.lookup,hb]
    exact ih
theorem Kv (f:Str) (v:V):∀ fs:List (Str×V),f∈(putF f v fs).map (·.1)∧∀ g,g∈fs.map (·.1)->g∈(putF f v fs).map (·.1)
 | []=>⟨by simp [putF],fun g h=>by simp at h⟩
 | (k,x)::r=>by
  obtain ⟨i1,i2⟩:=Kv f v r
  rw [show putF f v ((k,x)::r)=(if k=f then (k,v)::r else (k,x)::putF f v r) from rfl]
  by_cases hk:k=f
  ·rw [if_pos hk]
   subst hk
   exact ⟨by simp,fun g h=>by simpa using h⟩
  ·rw [if_neg hk]
   refine ⟨?_,fun g h=>?_⟩
   ·rw [List.map_cons]
    exact List.mem_cons_of_mem _ i1
   ·rw [List.map_cons] at h ⊢
    rcases List.mem_cons.mp h with e | e
    ·exact List.mem_cons.mpr (.inl e)
    ·exact List.mem_cons_of_mem _ (i2 g e)
theorem Le (f:Str) (v:V):∀ fs:List (Str×V),(putF f v fs).length≤fs.length+1
 | []=>by simp [putF]
 | (k,x)::r=>by
  have ih:=Le f v r
  rw [show putF f v ((k,x)::r)=(if k=f then (k,v)::r else (k,x)::putF f v r) from rfl]
  by_cases hk:k=f
  ·rw [if_pos hk,List.length_cons,List.length_cons]; omega
  ·rw [if_neg hk,List.length_cons,List.length_cons]; omega
theorem RelO.some_of {v:V} {o:Option Value} (r:RelO (some v) o):∃ u,o=some u∧RelV v u:=by
 cases o with
 | none=>exact (show False from r).elim
 | some u=>exact ⟨u,rfl,r⟩
theorem RelO.none_of {o:Option Value} (r:RelO none o):o=none:=by
 cases o with
 | none=>rfl
 | some u=>exact (show False from r).elim
theorem Zd {v:V} {u:Value} (r:RelV v u):PySem.W.handedIn u=true:=by
 cases v with
 | non=>cases (show u=Value.none from r); rfl
 | bl b=>cases (show u=Value.bool b from r); rfl
 | int i=>obtain ⟨t,e⟩:=(show ∃ t,u=Value.int i t from r); cases e; rfl
 | str x=>obtain ⟨t,e⟩:=(show ∃ t,u=Value.str x t from r); cases e; rfl
 | byt b=>obtain ⟨t,e⟩:=(show ∃ t,u=Value.bytes b t from r); cases e; rfl
 | flt b=>obtain ⟨t,e⟩:=(show ∃ t,u=Value.float b t from r); cases e; rfl
 | ref a=>cases (show u=Value.ref a from r); rfl
 | ty n=>cases (show u=Value.type n from r); rfl
section
variable {P:Program} {w:World} {H H':Hp} {h h':Heap} {a C dx:Addr} {fs fs':List (Str×V)}
theorem J6 (hok:HOk P w H h) (e:H a=some (.ins C dx fs)):∃ mA,ObjM h a dx C mA∧(∀ f,RelO (fs.lookup f) (mA f))∧PySem.Within mA (fs.map (·.1))∧fs.length≤1000∧H dx=some (.own a):=by
 obtain ⟨d,z,ne,ob,mA,n,r,q⟩:=(show B6 P w H h a (.ins C dx fs) from hok a _ e)
 exact ⟨mA,⟨ob,n,ne⟩,r,q,z,d⟩
end
structure Cls (K:PySem.W.Frag) (C:Addr):Prop where
 pg:PySem.W.plainGet K C Str.empty=true
 hd:PySem.W.hasDictIn K C=true
 po:PySem.W.plainOver K C=true
 sa:PySem.W.findIn K (.ref C) "__setattr__"=some (some (.builtin "object.__setattr__"))
theorem Cls.get {K:PySem.W.Frag} {C:Addr} (c:Cls K C) (f:Str):PySem.W.plainGet K C f=true:=c.pg
def Ct (K:PySem.W.Frag) (C:Addr) (f:Str):Prop:=PySem.W.findIn K (.ref C) f=some none
theorem Ct.taker {K:PySem.W.Frag} {C:Addr} {f:Str} (n:Ct K C f):PySem.W.takerIn K C f=some none:=by
 unfold PySem.W.takerIn
 rw [show PySem.W.findIn K (.ref C) f=some none from n]
 rfl
structure Meth (K:PySem.W.Frag) (C:Addr) (m:Str) (f:Addr):Prop where
 at_:PySem.W.findIn K (.ref C) m=some (some (.ref f))
 fn:PySem.W.isFn K (.ref f)=true
 kp:PySem.W.keepIn K (.ref f)=true
section
variable {X:Cx} {pins:List (Addr×Obj)} {σ:St} {H:Hp} {s:Shared} {a C dx:Addr} {fs:List (Str×V)} {f:Str} {v:V} {A:Around} {E:Value->Shared->Prop}
theorem Oq {b:Bool} {Q:Value->Shared->Prop} (I:Inv X pins σ H s) (e:H a=some (.ins C dx fs)) (c:Cls X.K C) (n:Ct X.K C f) (l:fs.lookup f=some v)
  (h:∀ u s',Inv X pins σ H s'->RelV v u->Q u s'):wpAny (model X.prog X.w) A (getAttr (.ref a) f b) Q E s:=by
 obtain ⟨mA,O,r,_,_,_⟩:=J6 I.hok e
 obtain ⟨u,hu,ru⟩:=RelO.some_of (v:=v) (o:=mA f) (by rw [← l]; exact r f)
 exact hU I.kIn O (c.get f) c.hd n hu (Zd ru) (h u _ (I.tok _) ru)
theorem Op {m:Str} {g:Addr} {pl:Sem Bool} {Q:Value×List Value->Shared->Prop} (I:Inv X pins σ H s) (e:H a=some (.ins C dx fs)) (c:Cls X.K C) (k:Meth X.K C m g) (l:fs.lookup m=none)
  (h:Q (.ref g,[.ref a]) s):wpAny (model X.prog X.w) A (getMethod (.ref a) m pl) Q E s:=by
 obtain ⟨mA,O,r,_,_,_⟩:=J6 I.hok e
 have hn:mA m=none:=RelO.none_of (by rw [← l]; exact r m)
 exact dN I.kIn O (c.get m) k.at_ k.fn hn h
theorem Ng {y:V} {u:Value} {Q:Unit->Shared->Prop} (I:Inv X pins σ H s) (e:H a=some (.ins C dx fs)) (c:Cls X.K C) (n:Ct X.K C f) (hl:fs.length<1000) (ry:RelV y u)
  (h:∀ s',Inv X pins σ (upd H a (.ins C dx (putF f y fs))) s'->Q () s'):wpAny (model X.prog X.w) A (setAttr (.ref a) f u) Q E s:=by
 obtain ⟨mA,O,r,wi,_,ho⟩:=J6 I.hok e
 have hz:(fs.map (·.1)).length≤sizeLine:=by rw [List.length_map,sizeLine_eq]; omega
 refine fH I.kIn O c.sa c.po n.taker c.hd wi hz fun h' O' sb=>h _ ?_
 have hd:∃ o,h'.get? dx=some o:=let ⟨o,_,_,e',_⟩:=O'.ns; ⟨o,e'⟩
 refine I.write (x:=a) (e:=dx) (by rw [e]; exact True.intro) (.inr ho) (fun b q hb z=>(sb.2 b hb).trans z) hd ?_
 refine ⟨by rw [Ae O.ne]; exact ho,?_,O.ne,O'.obj,_,O'.ns,fun g=>?_,fun g hg=>?_⟩
 ·have:=Le f y fs; omega
 ·show RelO ((putF f y fs).lookup g) (if g=f then some u else mA g)
  rw [La]
  by_cases q:g=f
  ·rw [if_pos q,if_pos q]; exact ry
  ·rw [if_neg q,if_neg q]; exact r g
 ·by_cases q:g=f
  ·rw [q]; exact (Kv f y fs).1
  ·refine (Kv f y fs).2 g (wi g fun z=>hg ?_)
   show (if g=f then some u else mA g)=none
   rw [if_neg q]; exact z
theorem Inv.made (I:Inv X pins σ H s):Inv X pins σ (upd (upd H s.heap.objs.size (.own (s.heap.objs.size+1))) (s.heap.objs.size+1) (.ins C s.heap.objs.size []))
  {s with heap:=(s.heap.push PySem.W.emptyDict).push (PySem.W.instObj C s.heap.objs.size)}:=by
 have e1:(s.heap.push PySem.W.emptyDict).get? s.heap.objs.size=some PySem.W.emptyDict:=Heap.get?_push_size s.heap rfl
 have e2:((s.heap.push PySem.W.emptyDict).push (PySem.W.instObj C s.heap.objs.size)).get? (s.heap.objs.size+1)=some (PySem.W.instObj C s.heap.objs.size):=by
  have:=Heap.get?_push_size (s.heap.push PySem.W.emptyDict) (o:=PySem.W.instObj C s.heap.objs.size) rfl
  rwa [Heap.size_push] at this
 have e3:(s.heap.push PySem.W.emptyDict).Ns s.heap.objs.size (fun _=>none):=⟨PySem.W.emptyDict,#[],_,e1,rfl,(fun e he=>absurd he (by simp)),fun _=>rfl⟩
 have I1:=I.laid (a:=s.heap.objs.size) (o:=.own (s.heap.objs.size+1)) (h':=s.heap.push PySem.W.emptyDict) (t':=s.toks) (fun b u q=>Heap.get?_push_of_some _ q) (Nat.le_refl _) ⟨_,e1⟩
 refine I1.laid (a:=s.heap.objs.size+1) (o:=.ins C s.heap.objs.size []) (t':=s.toks) (fun b u q=>Heap.get?_push_of_some _ q) (Nat.le_of_eq (Heap.size_push _ _)) ?_
 have ne:s.heap.objs.size≠s.heap.objs.size+1:=Nat.ne_of_lt (Nat.lt_succ_self _)
 refine ⟨by rw [Ae ne,Ag],Nat.zero_le _,ne,e2,fun _=>none,(Heap.Ns1.of_empty e3).at fun o q=>Heap.get?_push_of_some _ q,fun _=>True.intro,fun y hy=>absurd rfl hy⟩
theorem X0 {prog:Program} {w:World} {env:Env} {e:Expr} {f:Str} {pos:Pos} {s:Shared} {Q:Value->Shared->Prop} (hb:attributeBase e f env (eval e env)=eval e env)
  (h:wpAny (model prog w) A (eval e env) (fun o s₁=>wpAny (model prog w) A (getAttr o f true) Q E s₁) E s):wpAny (model prog w) A (eval (.Attribute e f pos) env) Q E s:=
 Attribute_any_ h (by rw [arm_eval_Attribute,hb])
end
def tFld (K:PySem.W.Frag) (ta:TE) (f:Str):TE:=fun σ H Q=>ta σ H fun x H1=>∃ a C dx fs v,x=.ref a∧H1 a=some (.ins C dx fs)∧Cls K C∧Ct K C f∧fs.lookup f=some v∧Q v H1
def sFld (K:PySem.W.Frag) (ta tv:TE) (f:Str):TS:=fun D σ H=>tv σ H fun y H1=>ta σ H1 fun x H2=>∃ a C dx fs,x=.ref a∧H2 a=some (.ins C dx fs)∧Cls K C∧Ct K C f∧fs.length<1000 ∧
 D.nx σ (upd H2 a (.ins C dx (putF f y fs)))
def InOp (X:Cx) (op:Operator) (rd:V->V->Hp->VK->Prop):Prop:=
 ∀ (pins:List (Addr×Obj)) (s:Shared) (σ:St) (H:Hp) (x y:V) (u v:Value) (Q:VK),Inv X pins σ H s->RelV x u->RelV y v->rd x y H Q->wpAny (model X.prog X.w) X.A (inplaceOp op u v) (EP X pins σ Q) X.xe s
def fR (K:PySem.W.Frag) (ta tv:TE) (rd:V->V->Hp->VK->Prop) (f:Str):TS:=fun D σ H=>ta σ H fun x H1=>∃ a C dx fs v,x=.ref a∧H1 a=some (.ins C dx fs)∧Cls K C∧Ct K C f∧fs.lookup f=some v ∧
 tv σ H1 fun y H2=>rd v y H2 fun z H3=>∃ dx' fs',H3 a=some (.ins C dx' fs')∧fs'.length<1000∧D.nx σ (upd H3 a (.ins C dx' (putF f z fs')))
section
variable {X:Cx} {o e value:Expr} {f:Str} {pos pos' tpos:Pos} {ta tv:TE}
theorem Ax (he:PE X e ta) (hb:attributeBase e f X.env (eval e X.env)=eval e X.env):PE X (.Attribute e f pos) (tFld X.K ta f):=by
 intro pins s σ H Q I h
 refine X0 hb (thn (he pins s σ H _ I h) fun u s1 ⟨x,H1,I1,rx,a,C,dx,fs,v,ex,ea,c,n,l,q⟩=>?_)
 subst ex
 obtain rfl:u=Value.ref a:=rx
 exact Oq I1 ea c n l fun u' s2 I2 ru=>⟨v,H1,I2,ru,q⟩
theorem Eg (ha:PE X o ta) (hv:PE X value tv) (hs:swapsWith value (some (.Attribute o f pos')) pos.line X.env=pure false):PS X (.Assign [.Attribute o f pos'] value pos) (sFld X.K ta tv f):=by
 intro pins s σ H D I h
 refine plainObj_wpAny_Assign_Attribute (thn (hv pins s σ H _ I h) fun u s1 ⟨y,H1,I1,ry,q⟩=>thn (ha pins s1 σ H1 _ I1 q) fun ov s2 ⟨x,H2,I2,rx,a,C,dx,fs,ex,ea,c,n,l,q2⟩=>?_) hs
 subst ex
 obtain rfl:ov=Value.ref a:=rx
 exact Ng I2 ea c n l ry fun s3 I3=>⟨σ,_,I3,q2⟩
theorem Hv {op:Operator} {rd:V->V->Hp->VK->Prop} (ha:PE X o ta) (hv:PE X value tv) (hop:InOp X op rd):PS X (.AugAssign (.Attribute o f tpos) op value pos) (fR X.K ta tv rd f):=by
 intro pins s σ H D I h
 refine wpAny_AugAssign_AttributeAny (thn (ha pins s σ H _ I h) fun ov s1 ⟨x,H1,I1,rx,a,C,dx,fs,v,ex,ea,c,n,l,q⟩=>?_)
 subst ex
 obtain rfl:ov=Value.ref a:=rx
 refine Oq I1 ea c n l fun u s2 I2 ru=>thn (hv pins s2 σ H1 _ I2 q) fun w3 s3 ⟨y,H2,I3,ry,q3⟩=>thn (hop pins s3 σ H2 v y u w3 _ I3 ru ry q3) fun w4 s4 ⟨z,H3,I4,rz,dx',fs',ea',l',q4⟩=>?_
 exact Ng I4 ea' c n l' rz fun s5 I5=>⟨σ,_,I5,q4⟩
def rAdd:V->V->Hp->VK->Prop:=fun x y H Q=>∃ i j,x=.int i∧y=.int j∧Q (.int (i+j)) H
theorem Sk:InOp X .Add rAdd:=by
 rintro pins s σ H x y u v Q I rx ry ⟨i,j,rfl,rfl,q⟩
 obtain ⟨t,rfl⟩:=(show ∃ t,u=Value.int i t from rx)
 obtain ⟨t',rfl⟩:=(show ∃ t',v=Value.int j t' from ry)
 exact PyProof.Rows.iadd_int ⟨.int (i+j),H,I.tok _,⟨_,rfl⟩,q⟩
end
section
variable {X:Cx} {pins:List (Addr×Obj)} {σ:St} {H:Hp} {s:Shared} {A:Around} {E:Value->Shared->Prop} {Q:Value->Shared->Prop} {c:Value} {b:Bool}
inductive TyOf (K:PySem.W.Frag) (H:Hp):V->Value->Prop where
 | non:TyOf K H .non (.type "NoneType")
 | bl (x:Bool):TyOf K H (.bl x) (.type "bool")
 | int (i:Int):TyOf K H (.int i) (.type "int")
 | str (x:Str):TyOf K H (.str x) (.type "str")
 | flt (x:UInt64):TyOf K H (.flt x) (.type "float")
 | lst {a:Addr} {xs:List V} (e:H a=some (.lst xs)):TyOf K H (.ref a) (.type "list")
 | frz {a:Addr} {o:Obj} {xs:List V} (e:H a=some (.frz o (.lst xs))):TyOf K H (.ref a) (.type "list")
 | tup {a:Addr} {xs:List V} (e:H a=some (.tup xs)):TyOf K H (.ref a) (.type "tuple")
 | dK {a:Addr} {kvs:List (Key×V)} (e:H a=some (.dK kvs)):TyOf K H (.ref a) (.type "dict")
 | dT {a:Addr} {kvs:List (List Key×V)} (e:H a=some (.dT kvs)):TyOf K H (.ref a) (.type "dict")
 | ins {a C dx:Addr} {fs:List (Str×V)} (e:H a=some (.ins C dx fs)) (cl:Cls K C) (ha:PySem.W.findIn K (.ref C) "__class__"=some (some (.builtin "object.__class__")))
    (hn:PySem.W.specialIn K (.builtin "object.__class__") "__get__"=some (some (.builtin "getset_descriptor.__get__"))) (htk:PySem.W.takesIn K (.builtin "object.__class__")=some true)
    (hm:PySem.W.mroIn K C (.type "object")=some true):TyOf K H (.ref a) (.ref C)
theorem Qa {x:V} {u t:Value} (I:Inv X pins σ H s) (rx:RelV x u) (ty:TyOf X.K H x t) (e:PySem.W.kitOne X.K t c=some b) (h:∀ tk,Q (.bool b) {s with toks:=tk}) :
  wpAny (model X.prog X.w) A (call (.builtin "isinstance") [u,c]) Q E s:=by
 cases ty with
 | non=>cases (show u=Value.none from rx); exact PySem.W.kia_one PySem.W.kitx_none I.kIn True.intro e (fun z=>nomatch z) h
 | bl y=>cases (show u=Value.bool y from rx); exact PySem.W.kia_one PySem.W.kitx_bool I.kIn True.intro e (fun z=>nomatch z) h
 | int i=>obtain ⟨t,q⟩:=(show ∃ t,u=Value.int i t from rx); cases q; exact PySem.W.kia_one PySem.W.kitx_int I.kIn True.intro e (fun z=>nomatch z) h
 | str y=>obtain ⟨t,q⟩:=(show ∃ t,u=Value.str y t from rx); cases q; exact PySem.W.kia_one PySem.W.kitx_str I.kIn True.intro e (fun z=>nomatch z) h
 | flt y=>obtain ⟨t,q⟩:=(show ∃ t,u=Value.float y t from rx); cases q; exact PySem.W.kia_one PySem.W.kitx_float I.kIn True.intro e (fun z=>nomatch z) h
 | @lst a xs ea=>
   cases (show u=Value.ref a from rx)
   obtain ⟨_,_,n,_,h1⟩:=(show B6 X.prog X.w H s.heap a (.lst xs) from I.hok a _ ea)
   exact PySem.W.kia_one PySem.W.kitx_list I.kIn ⟨_,h1,rfl⟩ e (fun z=>nomatch z) h
 | @frz a ob xs ea=>
   cases (show u=Value.ref a from rx)
   obtain ⟨_,_,_,n,_,h1⟩:=(show B6 X.prog X.w H s.heap a (.frz ob (.lst xs)) from I.hok a _ ea)
   exact PySem.W.kia_one PySem.W.kitx_list I.kIn ⟨_,h1,rfl⟩ e (fun z=>nomatch z) h
 | @tup a xs ea=>
   cases (show u=Value.ref a from rx)
   obtain ⟨_,_,_,p⟩:=(show B6 X.prog X.w H s.heap a (.tup xs) from I.hok a _ ea)
   obtain ⟨o,h1,h2,_⟩:=p
   exact PySem.W.kia_one PySem.W.kitx_tuple I.kIn ⟨o,h1,h2⟩ e (fun z=>nomatch z) h
 | @dK a kvs ea=>
   cases (show u=Value.ref a from rx)
   obtain ⟨_,_,vs,_,p⟩:=(show B6 X.prog X.w H s.heap a (.dK kvs) from I.hok a _ ea)
   obtain ⟨o,es,ep,h1,h2,_⟩:=p
   exact PySem.W.kia_one PySem.W.kitx_dict I.kIn ⟨o,h1,h2.1⟩ e (fun z=>nomatch z) h
 | @dT a kvs ea=>
   cases (show u=Value.ref a from rx)
   obtain ⟨_,_,xs,_,o,es,ep,h1,h2,_⟩:=(show B6 X.prog X.w H s.heap a (.dT kvs) from I.hok a _ ea)
   exact PySem.W.kia_one PySem.W.kitx_dict I.kIn ⟨o,h1,h2.1⟩ e (fun z=>nomatch z) h
 | @ins a C dx fs ea cl ha hn htk hm=>
   cases (show u=Value.ref a from rx)
   obtain ⟨mA,O,_⟩:=J6 I.hok ea
   obtain ⟨od,J,_⟩:=O.look
   exact PySem.W.kia_one (PySem.W.kitx_own (cl.get _) cl.hd ha hn htk hm) I.kIn J e (fun z=>nomatch z) h
end
end L2
namespace L2
open PySem PySem.Spec PyProof.Rows
structure Room (k:Nat) (A:Around):Prop where
 hd:A.handled=none
 dp:A.depth+3 * k+5<recursionLimit
 un:A.units+16 * k+200<cLine
theorem Room.mono {j k:Nat} {A:Around} (r:Room k A) (h:j≤k):Room j A:=⟨r.hd,by have:=r.dp; omega,by have:=r.un; omega⟩
theorem Room.deeper {k:Nat} {A:Around} (r:Room (k+1) A) (env:Env):Room k (A.deeper env):=
 ⟨r.hd,by have:=r.dp; show A.depth+1+3 * k+5<_; omega,by have:=r.un; show A.units+3+16 * k+200<_; omega⟩
theorem Room.in1 {k:Nat} {A:Around} (r:Room (k+1) A):Room k A.in1:=
 ⟨r.hd,by have:=r.dp; show A.depth+3 * k+5<_; omega,by have:=r.un; show A.units+1+16 * k+200<_; omega⟩
theorem V7 {A:Around} {C:Addr} {us:List Value} {kw:List (Str×Value)}:(A.under (.builtin "type.__call__" ⟨.ref C::us,kw⟩)).depth=A.depth+1:=by
 first | rfl | simp [Around.under,Code.weight,Code.isCreation,Code.isGuard,Code.isCaller,Code.frames,Code.isFrame,guardIds]
theorem V6 {A:Around} {C:Addr} {us:List Value} {kw:List (Str×Value)}:(A.under (.builtin "type.__call__" ⟨.ref C::us,kw⟩)).units=A.units+1:=by
 first | rfl | simp [Around.under,Code.cUnits,Code.frames,Code.isFrame]
theorem Room.make {k:Nat} {A:Around} (r:Room (k+1) A) (C:Addr) (us:List Value) (kw:List (Str×Value)):Room k (A.under (.builtin "type.__call__" ⟨.ref C::us,kw⟩)):=
 ⟨r.hd,by have:=r.dp; rw [V7]; omega,by have:=r.un; rw [V6]; omega⟩
theorem Room.depth {k:Nat} {A:Around} (r:Room k A):A.depth<recursionLimit:=by have:=r.dp; omega
theorem Room.units {k:Nat} {A:Around} (r:Room k A):A.units+64<cLine:=by have:=r.un; omega
def tNil:TA:=fun _ H Q=>Q [] H
def Wv (ta:TE) (tr:TA):TA:=fun σ H Q=>ta σ H fun x H1=>tr σ H1 fun xs H2=>Q (x::xs) H2
section
variable {X:Cx} {e:Expr} {es:List Expr} {te:TE} {t:TA} {pos:Pos}
theorem Ac:PA X [] tNil:=fun _ _ _ _ H Q I h=>Calls.spliced_nil ⟨[],H,I,.nil,h⟩
theorem Aa (ha:PE X e te) (hr:PA X es t) (hs:starEach (e::es) X.env=(false,eval e X.env)::starEach es X.env:=by rfl):PA X (e::es) (Wv te t):=by
 intro pos pins s σ H Q I h
 rw [hs]
 show wpAny _ _ (spliced ((false,eval e X.env)::backTo pos (starEach es X.env))) _ _ s
 refine Calls.spliced_cons (thn (ha pins s σ H _ I h) fun u s1 ⟨x,H1,I1,r1,q1⟩=>?_)
 exact thn (hr pos pins s1 σ H1 _ I1 q1) fun us s2 ⟨xs,H2,I2,r2,q2⟩=>⟨x::xs,H2,I2,.cons r1 r2,q2⟩
def tTup (t:TA):TE:=fun σ H Q=>t σ H fun xs H1=>xs.length≤sizeLine∧∀ p,H1 p=none->Q (.ref p) (upd H1 p (.tup xs))
def tLst (t:TA):TE:=fun σ H Q=>t σ H fun xs H1=>xs.length≤sizeLine∧∀ p,H1 p=none->Q (.ref p) (upd H1 p (.lst xs))
theorem Gj {x1} (h:PA X es t):PE X (.Tuple es x1 pos) (tTup t):=by
 intro pins s σ H Q I hq
 refine wpAny_Tuple_spliced (thn (h pos pins s σ H _ I hq) fun us s1 ⟨xs,H1,I1,r,z,q⟩=>⟨by rw [← r.length]; exact z,?_⟩)
 have hf:H1 s1.heap.objs.size=none:=I1.hok.fresh (Nat.le_refl _)
 refine ⟨.ref s1.heap.objs.size,upd H1 s1.heap.objs.size (.tup xs),I1.laid (t':=s1.toks) (fun b u e=>Heap.get?_push_of_some _ e) (Nat.le_refl _) ?_,rfl,q _ hf⟩
 exact ⟨z,us,r,⟨_,Heap.get?_push_size _ rfl,rfl,_,rfl⟩⟩
theorem C5 (h:PA X es t):PE X (.List es pos) (tLst t):=by
 intro pins s σ H Q I hq
 refine wpAny_List_spliced (thn (h pos pins s σ H _ I hq) fun us s1 ⟨xs,H1,I1,r,z,q⟩=>⟨by rw [← r.length]; exact z,?_⟩)
 have hf:H1 s1.heap.objs.size=none:=I1.hok.fresh (Nat.le_refl _)
 refine ⟨.ref s1.heap.objs.size,upd H1 s1.heap.objs.size (.lst xs),I1.laid (t':=s1.toks) (fun b u e=>Heap.get?_push_of_some _ e) (Nat.le_refl _) ?_,rfl,q _ hf⟩
 exact ⟨z,us,0,r,Heap.get?_push_size _ rfl⟩
end
abbrev Sp:=List V->Hp->VK->XK->Prop
abbrev CXT:=List Env->Hp->Shared->XK->Value->Shared->Prop
structure Env0 (P:Program) (w:World) (K:PySem.W.Frag) (mg:Str->Option Value) (base:Heap) (A:Around) (outer:List Env) (s:Shared) (H:Hp):Prop where
 frames:A.frames=some outer
 mod:Mod K mg base
 bs:∀ b o,base.get? b=some o->s.heap.get? b=some o∧H b=none
 bsz:base.objs.size≤s.heap.objs.size
 funs:s.heap.FunFrames base outer
 frf:∀ b∈frs outer,H b=none
 hok:HOk P w H s.heap
 bare:AllBare s.gens
def CE (outer:List Env) (P:Program) (w:World) (H:Hp) (s:Shared) (Q:VK) (u:Value) (s':Shared):Prop:=
 ∃ v H',s'.os=s.os∧AllBare s'.gens∧Un (frs outer) [] H H' s.heap s'.heap∧HOk P w H' s'.heap∧RelV v u∧Q v H'
def CR (CX:CXT) (outer:List Env) (P:Program) (w:World) (H:Hp) (s:Shared) (Q:VK) (E:XK) (r:Result) (s':Shared):Prop:=
 match r with
 | .ok (.ret u)=>CE outer P w H s Q u s'
 | .ok _=>False
 | .error e=>CX outer H s E e s'
structure FnOk (P:Program) (w:World) (K:PySem.W.Frag) (mg:Str->Option Value) (base:Heap) (CX:CXT) (k:Nat) (f:Addr) (fd:FuncData) (ps:List Str) (sp:Sp):Prop where
 len:∀ vs H Q E,sp vs H Q E->vs.length=ps.length
 run:∀ (A:Around) (outer:List Env) (s:Shared) (H:Hp) (args:Args) (us:List Value) (vs:List V) (Q:VK) (E:XK),Room k A->Env0 P w K mg base A outer s H->BindsTo s fd args (ps.zip us)->Vals vs us->sp vs H Q E ->
  codeAny (model P w) A (.call (.ref f) args) (CR CX outer P w H s Q E) s
theorem FnOk.mono {P:Program} {w:World} {K:PySem.W.Frag} {mg:Str->Option Value} {base:Heap} {CX:CXT} {j k:Nat} {f:Addr} {fd:FuncData} {ps:List Str} {sp:Sp} (F:FnOk P w K mg base CX j f fd ps sp) (h:j≤k) :
  FnOk P w K mg base CX k f fd ps sp:=⟨F.len,fun A outer s H args us vs Q E hr=>F.run A outer s H args us vs Q E (hr.mono h)⟩
theorem Env0.make {P:Program} {w:World} {K:PySem.W.Frag} {mg:Str->Option Value} {base:Heap} {A:Around} {outer:List Env} {s:Shared} {H:Hp} (e:Env0 P w K mg base A outer s H) (C:Addr) (us:List Value) (kw:List (Str×Value)) :
  Env0 P w K mg base (A.under (.builtin "type.__call__" ⟨.ref C::us,kw⟩)) outer s H:=⟨by first | exact e.frames | (simpa [Around.under,Code.envs,Code.isFrame,pushEnvs] using e.frames),e.mod,e.bs,e.bsz,e.funs,e.frf,e.hok,e.bare⟩
section
variable {X:Cx} {pins:List (Addr×Obj)} {σ:St} {H:Hp} {s s':Shared}
theorem Inv.env0 (I:Inv X pins σ H s):Env0 X.prog X.w X.K X.mg X.base X.A X.stack s H:=
 ⟨I.ok.frames,I.ok.mod,I.bs,Nat.le_trans I.ok.bsz I.sz,I.stack,I.stkFree,I.hok,I.bare⟩
theorem Inv.after {Q:VK} {u:Value} (I:Inv X pins σ H s) (h:CE X.stack X.prog X.w H s Q u s'):EP X pins σ Q u s':=by
 obtain ⟨v,H',os,bare,un,hok,r,q⟩:=h
 obtain ⟨hh,g,d,t,os'⟩:=s'
 obtain rfl:os'=s.os:=os
 exact ⟨v,H',I.call (h':=hh) (g':=g) (d':=d) (t':=t) (ch:=[]) un hok bare (fun b z=>absurd z (by simp)),r,q⟩
end
def Tk (sp:Sp) (dvs:List V) (E:XK) (t:TA):TE:=fun σ H Q=>t σ H fun vs H1=>sp (vs++dvs) H1 Q E
def Tj (C:Addr) (m:Str) (sp:Sp) (dvs:List V) (E:XK) (ta:TE) (t:TA):TE:=fun σ H Q=>ta σ H fun x H1=>∃ a dx fs,x=.ref a∧H1 a=some (.ins C dx fs)∧fs.lookup m=none ∧
 t σ H1 fun vs H2=>sp (x::(vs++dvs)) H2 Q E
def iD (C:Addr) (sp:Sp) (dvs:List V) (E:XK) (t:TA):TE:=fun σ H Q=>t σ H fun vs H1=>∀ x dx,H1 x=none->H1 dx=none->dx≠x ->
 sp (.ref x::(vs++dvs)) (upd (upd H1 dx (.own x)) x (.ins C dx [])) (fun v H2=>v=.non∧Q (.ref x) H2) E
def B8 (K:PySem.W.Frag) (fd:FuncData) (ps:List Str) (ds:List Value):Prop:=
 ∀ (s:Shared) (us:List Value),K.In s.heap->(us++ds).length=ps.length->BindsTo s fd ⟨us,[]⟩ (ps.zip (us++ds))
theorem B8.all {K:PySem.W.Frag} {fd:FuncData} {ps:List Str} (h:∀ us:List Value,us.length=ps.length->bindArgs fd ⟨us,[]⟩=pure (ps.zip us)):B8 K fd ps []:=fun s us _ hl=>by
 rw [List.append_nil] at hl ⊢
 exact .of_eq (h us hl)
def Hj (CX:CXT) (X:Cx) (E:XK):Prop:=∀ (pins:List (Addr×Obj)) (σ:St) (H:Hp) (s:Shared) (e:Value) (s':Shared),Inv X pins σ H s->CX X.stack H s E e s'->X.xe e s'
section
variable {X:Cx} {CX:CXT} {k:Nat} {f C:Addr} {fd:FuncData} {ps:List Str} {sp:Sp} {dvs:List V} {ds:List Value} {E:XK} {x m:Str} {p pos apos:Pos} {e o:Expr} {es:List Expr} {ta:TE} {t:TA}
theorem Nz {pins:List (Addr×Obj)} {σ:St} {H:Hp} {s:Shared} {Q:VK} {us:List Value} {vs:List V} (F:FnOk X.prog X.w X.K X.mg X.base CX k f fd ps sp) (hr:Room k X.A) (hb:B8 X.K fd ps ds) (hd:Vals dvs ds) (hx:Hj CX X E)
  (I:Inv X pins σ H s) (r:Vals vs us) (h:sp (vs++dvs) H Q E):wpAny (model X.prog X.w) X.A (call (.ref f) us) (EP X pins σ Q) X.xe s:=by
 have r2:Vals (vs++dvs) (us++ds):=r.append hd
 have hl:(us++ds).length=ps.length:=by rw [← r2.length]; exact F.len _ _ _ _ h
 refine wpAny_call (codeAny_mono (F.run X.A X.stack s H ⟨us,[]⟩ (us++ds) (vs++dvs) Q E hr I.env0 (hb s us I.kIn hl) r2 h) fun r s' hq=>?_)
 cases r with
 | error e=>exact hx pins σ H s e s' I hq
 | ok fl=>
   cases fl with
   | ret u=>exact I.after hq
   | next=>exact False.elim hq
   | brk=>exact False.elim hq
   | cont=>exact False.elim hq
theorem Xk (F:FnOk X.prog X.w X.K X.mg X.base CX k f fd ps sp) (hr:Room k X.A) (hg:Gl X x) (hm:X.mg x=some (.ref f)) (hk:PySem.W.keepIn X.K (.ref f)=true) (hb:B8 X.K fd ps ds) (hd:Vals dvs ds) (hx:Hj CX X E)
  (ha:PA X (e::es) t) (hdb:(x==("__debug__":Str))=false:=by decide) (he:starEach (e::es) X.env=(false,eval e X.env)::starEach es X.env:=by rfl) (hpl:(backTo pos (starEach es X.env)).any (·.1)=false:=by rfl) :
  PE X (.Call (.Name x p) (e::es) [] pos) (Tk sp dvs E t):=by
 intro pins s σ H Q I h
 refine wpAny_Call_Name_kw (Fl I hg hm ?_ hdb)
 refine PySem.W.callWith_K (h₀:=X.base) I.ok.mod.kin hk (thn (ha pos pins s σ H _ I h) fun us s1 ⟨vs,H1,I1,r,q⟩=>⟨I1.kIn,?_⟩) he hpl
 exact Nz F hr hb hd hx I1 r q
theorem Ff {pl:Sem Bool} (he:PE X o ta) (c:Cls X.K C) (hm:Meth X.K C m f) (F:FnOk X.prog X.w X.K X.mg X.base CX k f fd ps sp) (hr:Room k X.A) (hb:B8 X.K fd ps ds) (hd:Vals dvs ds) (hx:Hj CX X E) (ha:PA X (e::es) t)
  (hst:starEach (e::es) X.env=(false,eval e X.env)::starEach es X.env:=by rfl) (hpl:(backTo pos (starEach es X.env)).any (·.1)=false:=by rfl)
  (ht:eval (.Call (.Attribute o m apos) (e::es) [] pos) X.env=(do
    let ov ← eval o X.env
    standAt apos.atName
    let (f,first) ← holding [ov] (getMethod ov m pl)
    callWith pos f first (backTo pos (starEach (e::es) X.env)) (backToKw pos (keywordEach [] X.env))):=by rfl) :
  PE X (.Call (.Attribute o m apos) (e::es) [] pos) (Tj C m sp dvs E ta t):=by
 intro pins s σ H Q I h
 refine PySem.W.methodCall_KW (pl:=pl) (thn (he pins s σ H _ I h) fun u s1 ⟨x,H1,I1,rx,a,dx,fs,ex,ea,l,q⟩=>?_) ht
 subst ex
 obtain rfl:u=Value.ref a:=rx
 refine Op I1 ea c hm l ?_
 refine PySem.W.callWith_K (first:=[.ref a]) (h₀:=X.base) I.ok.mod.kin hm.kp (thn (ha pos pins s1 σ H1 _ I1 q) fun us s2 ⟨vs,H2,I2,r,q2⟩=>⟨I2.kIn,?_⟩) hst hpl
 exact Nz (us:=.ref a::us) (vs:=.ref a::vs) F hr hb hd hx I2 (.cons rfl r) q2
theorem bZ {pl:Sem Bool} (he:PE X o ta) (c:Cls X.K C) (hm:Meth X.K C m f) (F:FnOk X.prog X.w X.K X.mg X.base CX k f fd ps sp) (hr:Room k X.A) (hb:B8 X.K fd ps ds) (hd:Vals dvs ds) (hx:Hj CX X E)
  (ht:eval (.Call (.Attribute o m apos) [] [] pos) X.env=(do
    let ov ← eval o X.env
    standAt apos.atName
    let (f,first) ← holding [ov] (getMethod ov m pl)
    callWith pos f first (backTo pos (starEach [] X.env)) (backToKw pos (keywordEach [] X.env))):=by rfl) :
  PE X (.Call (.Attribute o m apos) [] [] pos) (Tj C m sp dvs E ta tNil):=by
 intro pins s σ H Q I h
 refine PySem.W.methodCall_KW (pl:=pl) (thn (he pins s σ H _ I h) fun u s1 ⟨x,H1,I1,rx,a,dx,fs,ex,ea,l,q⟩=>?_) ht
 subst ex
 obtain rfl:u=Value.ref a:=rx
 refine Op I1 ea c hm l ?_
 exact PySem.W.callWith_K0 (first:=[.ref a]) I1.kIn hm.kp (Nz (us:=[.ref a]) (vs:=[.ref a]) F hr hb hd hx I1 (.cons rfl .nil) q)
structure Mk (K:PySem.W.Frag) (C f:Addr):Prop where
 makes:PySem.W.makesIn K C=true
 init:PySem.W.findIn K (.ref C) "__init__"=some (some (.ref f))
 fn:PySem.W.isFn K (.ref f)=true
 kp:PySem.W.keepIn K (.ref C)=true
theorem bO {pins:List (Addr×Obj)} {σ:St} {H:Hp} {s:Shared} {Q:VK} {us:List Value} {vs:List V} (M:Mk X.K C f) (F:FnOk X.prog X.w X.K X.mg X.base CX k f fd ps sp) (hr:Room (k+1) X.A) (hb:B8 X.K fd ps ds) (hd:Vals dvs ds)
  (hx:Hj CX X E) (I:Inv X pins σ H s) (r:Vals vs us)
  (h:∀ x dx,H x=none->H dx=none->dx≠x->sp (.ref x::(vs++dvs)) (upd (upd H dx (.own x)) x (.ins C dx [])) (fun v H2=>v=.non∧Q (.ref x) H2) E) :
  wpAny (model X.prog X.w) X.A (call (.ref C) us) (EP X pins σ Q) X.xe s:=by
 have hq:=h (s.heap.objs.size+1) s.heap.objs.size (I.hok.fresh (Nat.le_succ _)) (I.hok.fresh (Nat.le_refl _)) (Nat.ne_of_lt (Nat.lt_succ_self _))
 have I2:=Inv.made (C:=C) I
 have r2:Vals (V.ref (s.heap.objs.size+1)::(vs++dvs)) (Value.ref (s.heap.objs.size+1)::(us++ds)):=.cons rfl (r.append hd)
 have hl:(Value.ref (s.heap.objs.size+1)::us++ds).length=ps.length:=by
  have e:=r2.length
  rw [F.len _ _ _ _ hq] at e
  exact e.symm
 refine wpAny_call (dD (f:=f) I.kIn M.makes M.init (beq_iff_eq.mp M.fn) (codeAny_mono (F.run _ X.stack _ _ ⟨Value.ref (s.heap.objs.size+1)::us,[]⟩ (Value.ref (s.heap.objs.size+1)::(us++ds)) _ _ E (hr.make C us [])
  (I2.env0.make C us []) (hb _ (Value.ref (s.heap.objs.size+1)::us) I2.kIn hl) r2 hq) fun r s' hq'=>?_))
 cases r with
 | error e=>exact hx pins σ _ _ e s' I2 hq'
 | ok fl=>
   cases fl with
   | ret u=>
     obtain ⟨v,H',I3,rv,ev,q3⟩:=I2.after hq'
     subst ev
     exact ⟨rv,⟨V.ref (s.heap.objs.size+1),H',I3,rfl,q3⟩⟩
   | next=>exact False.elim hq'
   | brk=>exact False.elim hq'
   | cont=>exact False.elim hq'
theorem Fg (M:Mk X.K C f) (F:FnOk X.prog X.w X.K X.mg X.base CX k f fd ps sp) (hr:Room (k+1) X.A) (hg:Gl X x) (hm:X.mg x=some (.ref C)) (hb:B8 X.K fd ps ds) (hd:Vals dvs ds) (hx:Hj CX X E)
  (ha:PA X (e::es) t) (hdb:(x==("__debug__":Str))=false:=by decide) (he:starEach (e::es) X.env=(false,eval e X.env)::starEach es X.env:=by rfl) (hpl:(backTo pos (starEach es X.env)).any (·.1)=false:=by rfl) :
  PE X (.Call (.Name x p) (e::es) [] pos) (iD C sp dvs E t):=by
 intro pins s σ H Q I h
 refine wpAny_Call_Name_kw (Fl I hg hm ?_ hdb)
 refine PySem.W.callWith_K (h₀:=X.base) I.ok.mod.kin M.kp (thn (ha pos pins s σ H _ I h) fun us s1 ⟨vs,H1,I1,r,q⟩=>⟨I1.kIn,?_⟩) he hpl
 exact bO M F hr hb hd hx I1 r q
end
def PK (X:Cx) (kws:List Keyword) (t:TA):Prop:=
 ∀ (pos:Pos) (pins:List (Addr×Obj)) (s:Shared) (σ:St) (H:Hp) (Q:List V->Hp->Prop),Inv X pins σ H s->t σ H Q->wpAny (model X.prog X.w) X.A (evalAll ((backToKw pos (keywordEach kws X.env)).map (·.2))) (AP X pins σ Q) X.xe s
section
variable {X:Cx} {CX:CXT} {k:Nat} {f C:Addr} {fd:FuncData} {ps ks:List Str} {sp:Sp} {E:XK} {x m:Str} {p pos apos kpos:Pos} {e o:Expr} {es:List Expr} {kws:List Keyword} {te ta:TE} {t tk:TA} {nm:Option Str}
theorem bU:PK X [] tNil:=fun _ _ _ _ H Q I h=>wpAny_evalAll_nil ⟨[],H,I,.nil,h⟩
theorem Xh (ha:PE X e te) (hr:PK X kws t):PK X (⟨nm,e,kpos⟩::kws) (Wv te t):=by
 intro pos pins s σ H Q I h
 show wpAny _ _ (evalAll ((do let v ← eval e X.env; standAt pos; pure v)::(backToKw pos (keywordEach kws X.env)).map (·.2))) _ _ s
 refine wpAny_evalAll_cons (wpAny_bind (thn (ha pins s σ H _ I h) fun u s1 ⟨x,H1,I1,r1,q1⟩=>wpAny_bind (wpAny_standAt (wpAny_pure ?_))))
 exact thn (hr pos pins s1 σ H1 _ I1 q1) fun us s2 ⟨xs,H2,I2,r2,q2⟩=>⟨x::xs,H2,I2,.cons r1 r2,q2⟩
variable {g:List Value->List Value->List Value} {gV:List V->List V->List V}
end
structure Al (N P:List Str) (sc:Scope):Prop where
 kind:sc.kind=.function
 co:sc.isCoroutine=false
 gen:sc.isGenerator=false
 nd:N.Nodup
 pre:N.take P.length=P
 par:∀ x∈P,sc.names.lookup x=some .local∨sc.names.lookup x=some .cell
 nofree:∀ y∈sc.names,y.2≠.free
theorem Qo {kindOf:Str->Option NameKind} {x:Str}:∀ {binds:List (Str×Value)} {m:Str->Option Value},(∀ v,(x,v)∉binds)->bindL kindOf binds m x=m x
 | [],_,_=>rfl
 | (n,v)::r,m,h=>by
  unfold bindL
  rw [Qo fun w hw=>h w (List.mem_cons_of_mem _ hw)]
  split
  ·have:x≠n:=by rintro rfl; exact h v List.mem_cons_self
   simp [this]
  ·rfl
theorem Qq {kindOf:Str->Option NameKind} {x:Str}:∀ {binds:List (Str×Value)} {m:Str->Option Value},(∀ v,(x,v)∉binds)->bindC kindOf binds m x=m x
 | [],_,_=>rfl
 | (n,v)::r,m,h=>by
  unfold bindC
  rw [Qq fun w hw=>h w (List.mem_cons_of_mem _ hw)]
  split
  ·rfl
  ·have:x≠n:=by rintro rfl; exact h v List.mem_cons_self
   simp [this]
theorem Qp {kindOf:Str->Option NameKind} {x:Str} {v:Value}:∀ {P:List Str} {vs:List Value} {i:Nat} {m:Str->Option Value},P.Nodup->P[i]?=some x->vs[i]?=some v->kindOf x=some .local ->
  bindL kindOf (P.zip vs) m x=some v
 | [],_,_,_,_,h,_,_=>by simp at h
 | _::_,[],_,_,_,_,h,_=>by simp at h
 | p::P,w::vs,0,m,nd,h1,h2,hk=>by
   simp at h1 h2; subst h1; subst h2
   show bindL kindOf ((p,w)::P.zip vs) m p=_
   unfold bindL
   rw [Qo fun v hv=>(List.nodup_cons.mp nd).1 (List.of_mem_zip hv).1,if_pos hk]
   simp
 | p::P,w::vs,i+1,m,nd,h1,h2,hk=>by
   show bindL kindOf ((p,w)::P.zip vs) m x=_
   unfold bindL
   exact Qp (i:=i) (List.nodup_cons.mp nd).2 (by simpa using h1) (by simpa using h2) hk
theorem Qr {kindOf:Str->Option NameKind} {x:Str} {v:Value}:∀ {P:List Str} {vs:List Value} {i:Nat} {m:Str->Option Value},P.Nodup->P[i]?=some x->vs[i]?=some v->kindOf x≠some .local ->
  bindC kindOf (P.zip vs) m x=some v
 | [],_,_,_,_,h,_,_=>by simp at h
 | _::_,[],_,_,_,_,h,_=>by simp at h
 | p::P,w::vs,0,m,nd,h1,h2,hk=>by
   simp at h1 h2; subst h1; subst h2
   show bindC kindOf ((p,w)::P.zip vs) m p=_
   unfold bindC
   rw [Qq fun v hv=>(List.nodup_cons.mp nd).1 (List.of_mem_zip hv).1,if_neg hk]
   simp
 | p::P,w::vs,i+1,m,nd,h1,h2,hk=>by
   show bindC kindOf ((p,w)::P.zip vs) m x=_
   unfold bindC
   exact Qr (i:=i) (List.nodup_cons.mp nd).2 (by simpa using h1) (by simpa using h2) hk
def C9 (N:List Str) (vs:List V):St:=vs.map some++List.replicate (N.length - vs.length) none
def cxOf (CX:CXT) (P:Program) (w:World) (K:PySem.W.Frag) (mg:Str->Option Value) (base:Heap) (N:List Str) (qual:Str) (scope:Scope) (f:Addr) (cd:Value) (A:Around) (outer:List Env) (s:Shared) (H:Hp) (E:XK):Cx where
 prog:=P
 w:=w
 K:=K
 mg:=mg
 base:=base
 A:=A.deeper (envOfC qual scope s.heap.objs.size f cd)
 N:=N
 s₀:=s
 H₀:=H
 env:=envOfC qual scope s.heap.objs.size f cd
 outer:=outer
 stack:=envOfC qual scope s.heap.objs.size f cd::outer
 ex:=[]
 calm:=true
 fn:=fun _=>true
 pn:=[]
 xe:=fun e s'=>wpAny (model P w) (A.deeper (envOfC qual scope s.heap.objs.size f cd)) (leaving (envOfC qual scope s.heap.objs.size f cd) e) (fun _ s''=>CX outer H s E e s'') (fun e' s''=>CX outer H s E e' s'') s'
theorem Uy {sc:Scope} {n:Nat} {x:Str} (h:sc.names.lookup x=some .cell):∃ c,(cellsFrom n sc.names []).lookup x=some c:=by
 have q:=PySem.W.cellsFrom_some sc.names n [] (.inl h)
 exact Option.isSome_iff_exists.mp q
theorem Za {CX:CXT} {P:Program} {w:World} {K:PySem.W.Frag} {mg:Str->Option Value} {base:Heap} {N ps:List Str} {qual:Str} {scope:Scope} {f:Addr} {cd:Value} {A:Around} {outer:List Env} {s s1:Shared} {H:Hp} {E:XK} {us:List Value} {vs:List V}
  (S:Al N ps scope) (hd:A.handled=none) (e0:Env0 P w K mg base A outer s H) (hl:vs.length=ps.length) (r:Vals vs us)
  (x:InCallC s s.heap.objs.size (bindL (envOfC qual scope s.heap.objs.size f cd).kindOf (ps.zip us) fun _=>none) (cellsFrom (s.heap.objs.size+1) scope.names []) (bindC (envOfC qual scope s.heap.objs.size f cd).kindOf (ps.zip us) fun _=>none) s1) :
  Inv (cxOf CX P w K mg base N qual scope f cd A outer s H E) [] (C9 N vs) H s1:=by
 have hpl:ps.length≤N.length:=by have:=congrArg List.length S.pre; rw [List.length_take] at this; omega
 obtain ⟨h1,tk,rfl,hk⟩:=x.done
 have noA:∀ b:Addr,b∉(cxOf CX P w K mg base N qual scope f cd A outer s H E).ex:=fun b z=>absurd (show b∈([]:List Addr) from z) (by simp)
 refine ⟨⟨e0.mod,S.kind,rfl,rfl,Nat.le_refl _,fun y z c h1 h2=>?_,fun y hy=>?_,fun y c _ h=>?_,fun _=>hd,Around.frames_deeper e0.frames,.inr ⟨rfl,rfl⟩,fun b z=>absurd z (noA b),e0.bs,e0.bsz,fun b _ _=>noA b,fun b z=>absurd z (noA b),e0.funs,e0.frf⟩,
  rfl,e0.bare,Un.kept hk,⟨_,x.toInCall.ns,fun i y v h1 h2 h3=>?_⟩,fun y c h=>⟨_,x.cell y c h⟩,e0.hok.fresh (Nat.le_refl _),fun y c h=>?_,fun p hp=>absurd (show p∈([]:List (Addr×Obj)) from hp) (by simp),e0.hok.kept hk,?_⟩
 ·exact name_of_addr x.apart (PySem.mem_of_lookup h1) (PySem.mem_of_lookup h2)
 ·have hy:scope.names.lookup y=some .cell∨scope.names.lookup y=some .free:=hy
  rcases hy with hy | hy
  ·exact Uy hy
  ·exact absurd rfl (S.nofree _ (PySem.mem_of_lookup hy))
 ·exact Nat.le_of_lt (x.above y c (PySem.mem_of_lookup h))
 ·have hi:i<vs.length:=by
   unfold C9 at h2
   by_cases hi:i<vs.length
   ·exact hi
   ·rw [List.getElem?_append_right (by simpa using hi)] at h2
    rw [List.getElem?_replicate] at h2
    split at h2 <;> cases h2
  have ha:vs[i]?=some v:=by
   unfold C9 at h2
   rw [List.getElem?_append_left (by simpa using hi),List.getElem?_map] at h2
   cases e:vs[i]? with
   | none=>rw [e] at h2; cases h2
   | some a=>rw [e] at h2; cases h2; rfl
  obtain ⟨u,hu,rv⟩:=r.get ha
  have hp:ps[i]?=some y:=by
   rw [← S.pre,List.getElem?_take_of_lt (by omega)]; exact h1
  have ndP:ps.Nodup:=by rw [← S.pre]; exact S.nd.sublist (List.take_sublist _ _)
  refine ⟨u,rv,?_⟩
  rcases S.par y (List.mem_of_getElem? hp) with k | k
  ·exact .inl ⟨k,Qp ndP hp hu k⟩
  ·obtain ⟨c,e⟩:=Uy (n:=s.heap.objs.size+1) k
   refine .inr ⟨.inl k,c,e,?_⟩
   have q:=x.cell y c e
   rw [Qr ndP hp hu (by show scope.names.lookup y≠_; rw [k]; decide)] at q
   exact q
 ·exact e0.hok.fresh (Nat.le_of_lt (x.above y c (PySem.mem_of_lookup h)))
 ·unfold C9
  show _=N.length
  rw [List.length_append,List.length_map,List.length_replicate]
  omega
theorem Xr {CX:CXT} {P:Program} {w:World} {K:PySem.W.Frag} {mg:Str->Option Value} {base:Heap} {k:Nat} {f:Addr} {name qual:Str} {params:Arguments} {body:List Stmt} {scope:Scope} {dV kV doc pm cdv ct oc:Value} {an od:Option Addr}
  {osl:Array (Option Value)} {N ps:List Str} {sp:Sp} (lk:K.lookup f=some ⟨oc,od,.func (PySem.W.fnOf name qual params body scope dV kV doc pm an cdv ct),osl⟩) (hcd:PySem.W.codeIn K cdv qual=true) (S:Al N ps scope)
  (len:∀ vs H Q E,sp vs H Q E->vs.length=ps.length)
  (hbody:∀ (A:Around) (outer:List Env) (s:Shared) (H:Hp) (vs:List V) (Q:VK) (E:XK),Room k (A.deeper (envOfC qual scope s.heap.objs.size f cdv))->sp vs H Q E ->
    ∃ t,PSs (cxOf CX P w K mg base N qual scope f cdv A outer s H E) body t∧t {nx:=fun _ H'=>Q .non H',rt:=Q} (C9 N vs) H) :
  FnOk P w K mg base CX (k+1) f (PySem.W.fnOf name qual params body scope dV kV doc pm an cdv ct) ps sp:=by
 refine ⟨len,fun A outer s H args us vs Q E hr e0 hb r hsp=>?_⟩
 have hl:=len _ _ _ _ hsp
 have KX:K.In s.heap:=e0.mod.kin.keeps fun b o e=>(e0.bs b o e).1
 have lim:s.heap.NoLimit:=e0.mod.nolimit.keeps fun b o e=>(e0.bs b o e).1
 have hkind:∀ y∈ps.zip us,scope.names.lookup y.1=some .local∨(scope.names.lookup y.1=some .cell∧((cellsFrom (s.heap.objs.size+1) scope.names []).lookup y.1).isSome=true):=fun ⟨n,v⟩ hy=>by
  rcases S.par n (List.of_mem_zip hy).1 with q | q
  ·exact .inl q
  ·exact .inr ⟨q,PySem.W.cellsFrom_some _ _ _ (.inl q)⟩
 refine codeAny_call_function hr.depth (KX _ _ lk) rfl S.co S.gen rfl (PySem.W.codeRec_of KX hcd) (hb _ _ _ _ ?_)
 refine wpAny_newFunctionEnv_cells S.kind hkind fun env he s1 x=>?_
 subst he
 refine ⟨lim.keeps x.toInCall.keep,codeAny_func ?_⟩
 obtain ⟨t,ht,hq⟩:=hbody A outer s H vs Q E (hr.deeper _) hsp
 have I:Inv (cxOf CX P w K mg base N qual scope f cdv A outer s H E) [] (C9 N vs) H s1:=Za S hr.hd e0 hl r x
 refine wpAny_mono (ht [] s1 (C9 N vs) H _ I hq) (fun fl s' hs=>?_) fun e s' hs=>hs
 have fin:∀ {σ':St} {H':Hp} {v:V} {u:Value},Inv (cxOf CX P w K mg base N qual scope f cdv A outer s H E) [] σ' H' s'->RelV v u->Q v H'->CE outer P w H s Q u s':=
  fun {σ' H' v u} J rv q=>⟨v,H',J.os,J.bare,J.base,J.hok,rv,q⟩
 cases fl with
 | ret u=>
   obtain ⟨v,σ',H',J,rv,q⟩:=hs
   exact fin J rv q
 | next=>
   obtain ⟨σ',H',J,q⟩:=hs
   exact fin (v:=V.non) (u:=Value.none) J rfl q
 | brk=>
   obtain ⟨_,_,_,q⟩:=hs
   exact False.elim q
 | cont=>
   obtain ⟨_,_,_,q⟩:=hs
   exact False.elim q
end L2
namespace L2
open PySem PySem.Spec PyProof.Rows
section
variable {X:Cx} {x:Str} {p pos:Pos} {e:Expr} {es:List Expr} {t:TA} {id T:String} {r:List V->Hp->VK->Prop}
def tCB (r:List V->Hp->VK->Prop) (t:TA):TE:=fun σ H Q=>t σ H fun vs H1=>r vs H1 Q
theorem Bi (hc:D4 X (.builtin id) r) (hg:Gl X x) (hm:X.mg x=none) (hv:bootBuiltins x=some (.builtin id)) (ha:PA X (e::es) t) (hn:x≠"__name__":=by decide) (hdb:(x==("__debug__":Str))=false:=by decide)
  (he:starEach (e::es) X.env=(false,eval e X.env)::starEach es X.env:=by rfl) (hpl:(backTo pos (starEach es X.env)).any (·.1)=false:=by rfl):PE X (.Call (.Name x p) (e::es) [] pos) (tCB r t):=by
 intro pins s σ H Q I h
 refine wpAny_Call_Name_kw (G3 I hg hm hv ?_ hn hdb)
 exact PyProof.Rows.callWith_builtin1 (thn (ha pos pins s σ H _ I h) fun us s1 ⟨vs,H1,I1,r1,q1⟩=>hc pins s1 σ H1 vs us Q I1 r1 q1) he hpl
theorem Hw (hc:D4 X (.type T) r) (hg:Gl X x) (hm:X.mg x=none) (hv:bootBuiltins x=some (.type T)) (ha:PA X (e::es) t) (hn:x≠"__name__":=by decide) (hdb:(x==("__debug__":Str))=false:=by decide)
  (he:starEach (e::es) X.env=(false,eval e X.env)::starEach es X.env:=by rfl) (hpl:(backTo pos (starEach es X.env)).any (·.1)=false:=by rfl):PE X (.Call (.Name x p) (e::es) [] pos) (tCB r t):=by
 intro pins s σ H Q I h
 refine wpAny_Call_Name_kw (G3 I hg hm hv ?_ hn hdb)
 exact PyProof.Rows.callWith_type1 (thn (ha pos pins s σ H _ I h) fun us s1 ⟨vs,H1,I1,r1,q1⟩=>hc pins s1 σ H1 vs us Q I1 r1 q1) he hpl
end
end L2
namespace HT
open PySem PyProof.Rows
def A7:List Int->List Int->Bool
 | [],[]=>false
 | [],_::_=>true
 | _::_,[]=>false
 | x::xs,y::ys=>if x=y then A7 xs ys else decide (x<y)
theorem Ci (x y:Int) (xs ys:List Int):A7 (x::xs) (y::ys)=if x=y then A7 xs ys else decide (x<y):=rfl
theorem Eu:A7 [] []=false:=rfl
theorem Dh (y:Int) (ys:List Int):A7 [] (y::ys)=true:=rfl
theorem Di (x:Int) (xs:List Int):A7 (x::xs) []=false:=rfl
theorem eB (A:Around) (s:Shared) (a:Int) (t:Tok) (c:Int) (u:Tok):∃ e,SeqAt.EqAt A s (.int a t) (.int c u) e∧(e=true↔a=c):=
 ⟨(a==c),SeqAt.EqAt.int_int a t c u,by simp⟩
theorem bQ (A:Around) (s:Shared) (a:Int) (t:Tok) (c:Int) (u:Tok) (prog:Program) (w:World) (E:Value->Shared->Prop) (Q:Value->Shared->Prop) (h:Q (.bool (decide (a<c))) s) :
  wpAny (model prog w) A (richCompare .Lt (.int a t) (.int c u)) Q E s:=
 (PyProof.Rows.lt_int h:wpAny (model prog w) A (compareOp .Lt (.int a t) (.int c u)) Q E s)
section
open PySem.SeqAt
open PySem.AutoSeq1 (wpAny_loadPart')
open PySem.MeetsSeq PySem.MeetsSeq2 PySem.MeetsSeq3
theorem Pc (l b:Addr) (items items2:Array Value) (n n2:Nat) (dd dd2:Option Addr) (sl sl2:Array (Option Value)) (ns ms:List Int) (hi:IntsAre items.toList ns) (hj:IntsAre items2.toList ms) :
  Meets (Builtin.«tuple.__lt__» ⟨[.ref l,.ref b],[]⟩)
   (fun _ R s=>s.heap.get? l=some {cls:=.type "tuple",dict:=dd,data:=.seq items n,slots:=sl}∧s.heap.get? b=some {cls:=.type "tuple",dict:=dd2,data:=.seq items2 n2,slots:=sl2} ∧
     R (.ok (.ret (.bool (A7 ns ms)))) s):=
 .of_wp fun prog w A R s h=>by
  obtain ⟨hp,g,d,tk,os⟩:=s; obtain ⟨hl,hb,h⟩:=h
  have f2:=AutoSeq1.sub_tuple_tuple
  have z1:items.size=ns.length:=by rw [← hi.length]; simp
  have z2:items2.size=ms.length:=by rw [← hj.length]; simp
  wp_walk using wpAny_loadPart' hl,wpAny_loadPart' hb,wpAny_forIn_list _ (fun rest b s'=>b.1=none∧s'=⟨hp,g,d,tk,os⟩∧∃ (vs ws:List Value) (ns' ms':List Int),rest=vs.zip ws ∧
   IntsAre vs ns'∧IntsAre ws ms'∧ns'.length+items2.size=ms'.length+items.size∧R (.ok (.ret (.bool (A7 ns' ms')))) ⟨hp,g,d,tk,os⟩) _
  case turn=>
   rintro ⟨y,x⟩ rest b s' ⟨hb',rfl,vs,ws,ns',ms',hz,hvi,hwi,hlen,hR⟩
   cases hvi with
   | nil=>rw [List.zip_nil_left] at hz; cases hz
   | cons a t hvi'=>
     cases hwi with
     | nil=>rw [List.zip_nil_right] at hz; cases hz
     | cons c u hwi'=>
       rw [List.zip_cons_cons] at hz
       injection hz with hyx hrest
       injection hyx with hy hx
       subst hy hx
       rw [Ci] at hR
       simp only [List.length_cons] at hlen
       obtain ⟨e,he,hiff⟩:=eB A.in1 ⟨hp,g,d,tk,os⟩ a t c u
       refine wpAny_bind (he prog w _ _ ?_)
       cases e with
       | true=>
         rw [if_pos (hiff.mp rfl)] at hR
         wp_walk
         exact ⟨rfl,rfl,_,_,_,_,hrest,hvi',hwi',by omega,hR⟩
       | false=>
         rw [if_neg (fun q=>absurd (hiff.mpr q) Bool.false_ne_true)] at hR
         have hri:=bQ A.in1 ⟨hp,g,d,tk,os⟩ a t c u prog w
         wp_walk using hri
         exact ⟨_,rfl,by simpa using hR⟩
  case fin=>
   rintro ⟨b1,b2⟩ s' ⟨hb',rfl,vs,ws,ns',ms',hz,hvi,hwi,hlen,hR⟩
   simp only at hb'
   subst hb'
   have hv:A7 ns' ms'=decide (items.size<items2.size):=by
    cases hvi with
    | nil=>
      cases hwi with
      | nil=>
        simp only [List.length_nil] at hlen
        rw [Eu]
        exact (decide_eq_false (by omega)).symm
      | cons c u hw=>
        simp only [List.length_nil,List.length_cons] at hlen
        rw [Dh]
        exact (decide_eq_true (by omega)).symm
    | cons a t hv=>
      cases hwi with
      | nil=>
        simp only [List.length_nil,List.length_cons] at hlen
        rw [Di]
        exact (decide_eq_false (by omega)).symm
      | cons c u hw=>
        rw [List.zip_cons_cons] at hz
        cases hz
   rw [hv] at hR
   wp_walk
   exact ⟨_,rfl,by simpa [Builtin.Tuple.tupleCompareSizes] using hR⟩
  case h=>
   exact ⟨rfl,rfl,items.toList,items2.toList,ns,ms,rfl,hi,hj,by omega,h⟩
end
section
variable {prog:Program} {w:World} {A:Around} {E:Value->Shared->Prop} {s:Shared}
theorem Og {l b:Addr} {items items2:Array Value} {ns ms:List Int} {Q:Value->Shared->Prop} (hl:IsTup s.heap l items) (hb:IsTup s.heap b items2) (hi:IntsAre items.toList ns) (hj:IntsAre items2.toList ms)
  (hu:A.units<cLine) (h:Q (.bool (A7 ns ms)) s):wpAny (model prog w) A (compareOp .Lt (.ref l) (.ref b)) Q E s:=by
 obtain ⟨⟨cls,dd,data,sl⟩,ho,hc,n,hd⟩:=id hl
 obtain ⟨⟨cls2,dd2,data2,sl2⟩,ho2,hc2,n2,hd2⟩:=id hb
 simp only at hc hd hc2 hd2
 subst hc hd hc2 hd2
 exact richCompare_meets_room (op:=.Lt) ⟨_,ho,rfl⟩ ⟨_,ho2,rfl⟩ PySem.F.slot_tuple_lt PySem.F.entry_tuple_lt (PySem.F.args_tuple_lt_2 _ _) (Pc l b items items2 n n2 dd dd2 sl sl2 ns ms hi hj)
  ⟨ho,ho2,show Value.bool (A7 ns ms)≠Value.notImplemented∧Q (.bool (A7 ns ms)) s from ⟨(fun x=>nomatch x),h⟩⟩ hu
def sIx (n d:Nat):Option Int->Nat
 | none=>d
 | some v=>if v<0 then (v+(n:Int)).toNat else min v.toNat n
end
end HT
namespace L2
open PySem PySem.Spec PyProof.Rows
abbrev TO:=St->Hp->(Option Int->Hp->Prop)->Prop
def PO (X:Cx) (e:Option Expr) (t:TO):Prop:=
 ∀ (pins:List (Addr×Obj)) (s:Shared) (σ:St) (H:Hp) (Q:Option Int->Hp->Prop),Inv X pins σ H s->t σ H Q ->
  wpAny (model X.prog X.w) X.A (evalPart e X.env) (fun u s'=>∃ o H',Inv X pins σ H' s'∧IsPart u o∧Q o H') X.xe s
def fA:TO:=fun _ H Q=>Q none H
def tPart (t:TE):TO:=fun σ H Q=>t σ H fun x H1=>∃ i,x=.int i∧Q (some i) H1
theorem Fm {ns:List Int}:∀ {us:List Value},Vals (ns.map V.int) us->IntsAre us ns:=by
 induction ns with
 | nil=>intro us r; rw [List.map_nil] at r; cases r; exact .nil
 | cons n ns ih=>
   intro us r
   rw [List.map_cons] at r
   cases r with
   | cons r1 r2=>
     obtain ⟨t,e⟩:=r1
     subst e
     exact .cons n t (ih r2)
section
variable {X:Cx} {e:Expr} {te:TE} {lo hi:Option Expr} {tl th:TO} {pos p2:Pos}
theorem D6:PO X none fA:=by
 intro pins s σ H Q I h
 rw [evalPart_none]
 exact wpAny_pure ⟨none,H,I,.none,h⟩
theorem D5 (h:PE X e te):PO X (some e) (tPart te):=by
 intro pins s σ H Q I hw
 rw [evalPart_some]
 refine thn (h pins s σ H _ I hw) fun u s1 ⟨x,H1,I1,r1,q1⟩=>?_
 obtain ⟨i,rfl,q⟩:=q1
 obtain ⟨t,rfl⟩:=r1
 exact ⟨some i,H1,I1,.int i t,q⟩
def SlR (X:Cx) (r:V->Option Int->Option Int->Hp->VK->Prop):Prop:=
 ∀ (pins:List (Addr×Obj)) (s:Shared) (σ:St) (H:Hp) (x:V) (v vl vu:Value) (lo hi:Option Int) (sl:Addr) (Q:VK),Inv X pins σ H s->RelV x v->s.heap.IsSliceOf sl vl vu .none->IsPart vl lo->IsPart vu hi->r x lo hi H Q ->
  ∃ T id,typeLookup (.type T) "__getitem__"=pure (some (.builtin id))∧s.TypeIs v T∧wpAny (model X.prog X.w) X.A (getItem v (.ref sl)) (EP X pins σ Q) X.xe s
def tSl (r:V->Option Int->Option Int->Hp->VK->Prop) (te:TE) (tl th:TO):TE:=fun σ H Q=>te σ H fun x H1=>tl σ H1 fun l H2=>th σ H2 fun u H3=>r x l u H3 Q
theorem Dg {r:V->Option Int->Option Int->Hp->VK->Prop} (hr:SlR X r) (he:PE X e te) (hl:PO X lo tl) (hu:PO X hi th):PE X (.Subscript e (.Slice lo hi none p2) pos) (tSl r te tl th):=by
 intro pins s σ H Q I h
 refine Subscript_ (thn (he pins s σ H _ I h) fun v s1 ⟨x,H1,I1,r1,q1⟩=>?_)
 refine wpAny_Slice (thn (hl pins s1 σ H1 _ I1 q1) fun vl s2 ⟨l,H2,I2,pl,q2⟩=>thn (hu pins s2 σ H2 _ I2 q2) fun vu s3 ⟨u,H3,I3,pu,q3⟩=>?_)
 rw [evalPart_none]
 refine wpAny_pure ?_
 have I4:Inv X pins σ H3 {s3 with heap:=s3.heap.push {cls:=.type "slice",data:=.fields #[vl,vu,.none]}}:=I3.kept (t':=s3.toks) fun b ob q=>Heap.get?_push_of_some _ q
 obtain ⟨T,id,hT,ht,hg⟩:=hr pins {s3 with heap:=s3.heap.push {cls:=.type "slice",data:=.fields #[vl,vu,.none]}} σ H3 x v vl vu l u s3.heap.objs.size Q I4 r1 (Heap.IsSliceOf.new ..) pl pu q3
 show wpAny (model X.prog X.w) X.A (subscriptTail e (.Slice lo hi none p2) v (.ref s3.heap.objs.size)) (EP X pins σ Q) X.xe {s3 with heap:=s3.heap.push {cls:=.type "slice",data:=.fields #[vl,vu,.none]}}
 exact tail_any (ops:=[.ref s3.heap.objs.size,v]) ht hT hg (by with_unfolding_all rfl)
def cutV (xs:List V) (lo hi:Option Int):List V:=(xs.drop (HT.sIx xs.length 0 lo)).take (HT.sIx xs.length xs.length hi - HT.sIx xs.length 0 lo)
theorem Uu (xs:List V) (lo hi:Option Int):(cutV xs lo hi).length≤xs.length:=by
 unfold cutV
 rw [List.length_take,List.length_drop]
 omega
def rLtT (K:PySem.W.Frag):R2:=fun x y H Q=>∃ a b ns ms,x=.ref a∧y=.ref b∧SqT K H a (ns.map V.int)∧SqT K H b (ms.map V.int)∧Q (.bl (HT.A7 ns ms)) H
theorem jQ (hu:X.A.units<cLine):OpR X (compareOp .Lt) (rLtT X.K):=by
 intro pins s σ H x y v u Q I rx ry h
 obtain ⟨a,b,ns,ms,rfl,rfl,ha,hb,q⟩:=h
 cases rx
 cases ry
 obtain ⟨its,r1,p1,_⟩:=I.tuple ha
 obtain ⟨its2,r2,p2,_⟩:=I.tuple hb
 have i1:IntsAre its.toArray.toList ns:=Fm r1
 have i2:IntsAre its2.toArray.toList ms:=Fm r2
 exact HT.Og p1 p2 i1 i2 hu ⟨.bl (HT.A7 ns ms),H,I,rfl,q⟩
end
end L2
namespace L2
open PySem PySem.Spec PyProof.Rows
def ixN (n:Nat) (i:Int):Option Nat:=if 0≤i then (if i<n then some i.toNat else none) else if -(n:Int)≤i then some (i+n).toNat else none
def atI {α:Type} (xs:List α) (i:Int):Option α:=(ixN xs.length i).bind fun j=>xs[j]?
theorem Xp {n:Nat} {i:Int} {j:Nat} (h:ixN n i=some j):seqIndex? i n=some j∧j<n∧-(n:Int)≤i∧i<n:=by
 unfold ixN at h
 by_cases h0:0≤i
 ·rw [if_pos h0] at h
  by_cases h1:i<n
  ·rw [if_pos h1] at h
   have e:i.toNat=j:=Option.some.inj h
   exact ⟨by rw [seqIndex_of h0 h1,e],by omega,by omega,h1⟩
  ·rw [if_neg h1] at h; cases h
 ·rw [if_neg h0] at h
  by_cases h1:-(n:Int)≤i
  ·rw [if_pos h1] at h
   have e:(i+n).toNat=j:=Option.some.inj h
   exact ⟨by rw [seqIndex_neg (by omega) h1,e],by omega,h1,by omega⟩
  ·rw [if_neg h1] at h; cases h
theorem Td {α:Type} {xs:List α} {i:Int} {v:α} (h:atI xs i=some v):∃ j,seqIndex? i xs.length=some j∧xs[j]?=some v∧j<xs.length∧-(xs.length:Int)≤i∧i<xs.length:=by
 unfold atI at h
 cases e:ixN xs.length i with
 | none=>rw [e] at h; cases h
 | some j=>
   rw [e] at h
   obtain ⟨h1,h2,h3,h4⟩:=Xp e
   exact ⟨j,h1,h,h2,h3,h4⟩
theorem D8 {α:Type} {xs:List α} {j:Nat} {v:α} (h:xs[j]?=some v):atI xs (j:Int)=some v:=by
 have hj:j<xs.length:=(List.getElem?_eq_some_iff.mp h).1
 have e:ixN xs.length (j:Int)=some j:=by
  unfold ixN
  rw [if_pos (by omega),if_pos (by omega)]; simp
 unfold atI; rw [e]; exact h
def iB (b:Expr):Prop:=∀ o i,subscripted b false o i=operate [o,i] (getItem o i)
def IxR (X:Cx) (r:R2):Prop:=
 ∀ (value slice:Expr) (pins:List (Addr×Obj)) (s:Shared) (σ:St) (H:Hp) (x y:V) (v u:Value) (Q:VK),Inv X pins σ H s->RelV x v->RelV y u->r x y H Q ->
  subscripted slice false v u=operate [v,u] (getItem v u)->wpAny (model X.prog X.w) X.A (subscriptTail value slice v u) (EP X pins σ Q) X.xe s
def MtR (X:Cx) (id:String) (r:V->List V->Hp->VK->Prop):Prop:=
 ∀ (pins:List (Addr×Obj)) (s:Shared) (σ:St) (H:Hp) (x:V) (xs:List V) (v:Value) (us:List Value) (Q:VK),Inv X pins σ H s->RelV x v->Vals xs us->r x xs H Q ->
  wpAny (model X.prog X.w) X.A (call (.builtin id) (v::us)) (EP X pins σ Q) X.xe s
section
variable {X:Cx} {a b:Expr} {ta tb:TE} {pos:Pos}
theorem B7 {r:R2} (hr:IxR X r) (ha:PE X a ta) (hb:PE X b tb) (hs:iB b):PE X (.Subscript a b pos) (tOp r ta tb):=by
 intro pins s σ H Q I h
 exact Subscript_ (binT ha hb I h fun v u s2 x y H2 I2 rx ry q=>hr a b pins s2 σ H2 x y v u Q I2 rx ry q (hs _ _))
def rIxL (K:PySem.W.Frag):R2:=fun x y H Q=>∃ p xs i v,x=.ref p∧y=.int i∧SqL K H p xs∧atI xs i=some v∧Q v H
def rIxT (K:PySem.W.Frag):R2:=fun x y H Q=>∃ p xs i v,x=.ref p∧y=.int i∧SqT K H p xs∧atI xs i=some v∧Q v H
def rIxS:R2:=fun x y H Q=>∃ z i c,x=.str z∧y=.int i∧z.length≤sizeLine∧atI z.cps.toList i=some c∧Q (.str ⟨#[c]⟩) H
theorem Bq:IxR X (rIxL X.K):=by
 intro value slice pins s σ H x y v u Q I rx ry h hs
 obtain ⟨p,xs,i,z,rfl,rfl,hq,he,q⟩:=h
 cases rx
 obtain ⟨t,rfl⟩:=ry
 obtain ⟨its,r,pl,hz⟩:=I.list hq
 obtain ⟨j,h1,h2,h3,h4,h5⟩:=Td he
 obtain ⟨w,ew,rw'⟩:=r.get h2
 have hl:=r.length
 have hn:=Gz
 have fin:EP X pins σ Q w s:=⟨z,H,I,rw',q⟩
 by_cases h0:0≤i
 ·have hj:i.toNat=j:=by
   rw [seqIndex_of h0 h5] at h1
   exact Option.some.inj h1
  exact item_listR pl.isList h0 (by omega) (by rw [hj]; simpa using ew) fin hs
 ·have hj:(i+(its.toArray.size:Int)).toNat=j:=by
   rw [seqIndex_neg (by omega) h4] at h1
   rw [List.size_toArray,← hl]
   exact Option.some.inj h1
  exact subscriptTail_builtinR (x:=w) pl.isList.typeIs slot_list_getitem.lookup
   (wpAny_getItem_list_neg (Q:=fun r s'=>r=w∧EP X pins σ Q r s') pl.isList (by omega) (by rw [List.size_toArray] <;> omega) (by omega) (by rw [hj]; simpa using ew) ⟨rfl,fin⟩) hs
theorem G4:IxR X (rIxT X.K):=by
 intro value slice pins s σ H x y v u Q I rx ry h hs
 obtain ⟨p,xs,i,z,rfl,rfl,hq,he,q⟩:=h
 cases rx
 obtain ⟨t,rfl⟩:=ry
 obtain ⟨its,r,pl,hz⟩:=I.tuple hq
 obtain ⟨j,h1,h2,h3,h4,h5⟩:=Td he
 obtain ⟨w,ew,rw'⟩:=r.get h2
 have hl:=r.length
 have hn:=Gz
 have fin:EP X pins σ Q w s:=⟨z,H,I,rw',q⟩
 exact subscriptTail_builtinR (x:=w) pl.typeIs slot_tuple_getitem.lookup
  (getItem_tuple (j:=j) (Q:=fun r s'=>r=w∧EP X pins σ Q r s') pl (by omega) (by omega) (by rw [List.size_toArray,← hl]; exact h1) (by simpa using ew) ⟨rfl,fin⟩) hs
theorem kG:IxR X rIxS:=by
 intro value slice pins s σ H x y v u Q I rx ry h hs
 obtain ⟨z,i,c,rfl,rfl,hz,he,q⟩:=h
 obtain ⟨t,rfl⟩:=rx
 obtain ⟨t',rfl⟩:=ry
 obtain ⟨j,h1,h2,h3,h4,h5⟩:=Td he
 have hl:z.cps.toList.length=z.length:=by simp [Str.length]
 rw [hl] at h1 h4 h5
 have hn:=Gz
 exact tail_any (typeIs_str s z t) slot_str_getitem.lookup (getItem_str (c:=c) (by
  have e1:decide (i < -(2 ^ 63:Int))=false:=decide_eq_false (by omega)
  have e2:decide (i ≥ 2 ^ 63)=false:=decide_eq_false (by omega)
  rw [e1,e2,Bool.or_false]) (by rw [h1]; simpa using h2) ⟨.str ⟨#[c]⟩,H,I.tok _,⟨_,rfl⟩,q⟩) hs
theorem V5 (its:List Value) (n j:Nat) (u:Value):Obj.mapSeq (·.setIfInBounds j u) {cls:=.type "list",data:=.seq its.toArray n}={cls:=.type "list",data:=.seq (its.set j u).toArray n}:=by
 simp [Obj.mapSeq]
theorem Inv.lst {pins:List (Addr×Obj)} {σ:St} {H:Hp} {s:Shared} {p:Addr} {xs:List V} (I:Inv X pins σ H s) (h:H p=some (.lst xs)) :
  ∃ (its:List Value) (n:Nat),Vals xs its∧s.heap.get? p=some {cls:=.type "list",data:=.seq its.toArray n}∧xs.length≤sizeLine:=by
 obtain ⟨z,its,n,r,e⟩:=I.hok p _ h
 exact ⟨its,n,r,e,z⟩
theorem Inv.lstUpd {pins:List (Addr×Obj)} {σ:St} {H:Hp} {s:Shared} {p:Addr} {xs ys:List V} {its its':List Value} {n n':Nat} {f:Obj->Obj} (I:Inv X pins σ H s) (h:H p=some (.lst xs))
  (ho:s.heap.get? p=some {cls:=.type "list",data:=.seq its.toArray n}) (hf:f {cls:=.type "list",data:=.seq its.toArray n}={cls:=.type "list",data:=.seq its'.toArray n'}) (r:Vals ys its') (hz:ys.length≤sizeLine) (t:Nat) :
  Inv X pins σ (upd H p (.lst ys)) {s with heap:=s.heap.update p f,toks:=t}:=by
 have e:(s.heap.update p f).get? p=some {cls:=.type "list",data:=.seq its'.toArray n'}:=by
  rw [Heap.get?_update_self f ho (by rw [hf] <;> rfl),hf]
 refine I.write (x:=p) (e:=p) (by rw [h]; trivial) (.inl rfl) (fun b u hb q=>(Heap.get?_update_other _ _ (Ne.symm hb)).trans q) ⟨_,e⟩ ?_
 exact ⟨hz,its',n',r,e⟩
def rSetL:V->V->V->Hp->(Hp->Prop)->Prop:=fun o i v H Q=>∃ p xs k j,o=.ref p∧i=.int k∧H p=some (.lst xs)∧ixN xs.length k=some j∧Q (upd H p (.lst (xs.set j v)))
theorem Nh:PSet X rSetL:=by
 intro pins s σ H o i v ov iv u Q I ro ri rv h
 obtain ⟨p,xs,k,j,rfl,rfl,hp,hj,q⟩:=h
 cases ro
 obtain ⟨t,rfl⟩:=ri
 obtain ⟨its,n,r,ho,hz⟩:=I.lst hp
 obtain ⟨h1,h2,h3,h4⟩:=Xp hj
 have hl:=r.length
 have hn:=Gz
 have I':Inv X pins σ (upd H p (.lst (xs.set j v))) {s with heap:=s.heap.update p (Obj.mapSeq (·.setIfInBounds j u))}:=
  I.lstUpd hp ho (V5 its n j u) (r.set rv j) (by rw [List.length_set]; exact hz) s.toks
 by_cases h0:0≤k
 ·have hk:k.toNat=j:=by
   rw [seqIndex_of h0 h4] at h1
   exact Option.some.inj h1
  exact PySem.W.ki_setAt ho h0 (by omega) (by rw [List.size_toArray,← hl]; exact h4) (by rw [hk]; exact ⟨_,I',q⟩)
 ·have hk:(k+(its.toArray.size:Int)).toNat=j:=by
   rw [seqIndex_neg (by omega) h3] at h1
   rw [List.size_toArray,← hl]
   exact Option.some.inj h1
  exact PySem.W.ki_setBack ho (by omega) (by rw [List.size_toArray,← hl]; exact h3) (by omega) (by rw [hk]; exact ⟨_,I',q⟩)
theorem Q7 (lo hi:Option Int) (n:Nat):(sliceBounds lo hi none n).1=((HT.sIx n 0 lo:Nat):Int)∧(sliceBounds lo hi none n).2.1=((HT.sIx n n hi:Nat):Int)∧(sliceBounds lo hi none n).2.2=1:=by
 refine ⟨?_,?_,rfl⟩
 ·cases lo with
  | none=>simp [sliceBounds,HT.sIx]
  | some i=>
    simp only [sliceBounds,HT.sIx,Option.getD_none,show (1:Int) > 0 by decide,if_true]
    by_cases h:i<0
    ·simp only [h,if_true] <;> omega
    ·simp only [h,if_false] <;> omega
 ·cases hi with
  | none=>simp [sliceBounds,HT.sIx]
  | some i=>
    simp only [sliceBounds,HT.sIx,Option.getD_none,show (1:Int) > 0 by decide,if_true]
    by_cases h:i<0
    ·simp only [h,if_true] <;> omega
    ·simp only [h,if_false] <;> omega
theorem Pe (its:List Value) (lo hi:Option Int):slicePick its.toArray lo hi none=((its.drop (HT.sIx its.length 0 lo)).take (HT.sIx its.length its.length hi - HT.sIx its.length 0 lo)).toArray:=by
 obtain ⟨h1,h2,h3⟩:=Q7 lo hi its.toArray.size
 unfold slicePick
 rw [h1,h2,h3]
 simp only [sliceRange_one,pick_run,List.size_toArray] <;> rfl
def rSlL (K:PySem.W.Frag):V->Option Int->Option Int->Hp->VK->Prop:=fun x lo hi H Q=>∃ a xs,x=.ref a∧SqL K H a xs∧∀ p,H p=none->Q (.ref p) (upd H p (.lst (cutV xs lo hi)))
theorem fG:SlR X (rSlL X.K):=by
 intro pins s σ H x v vl vu lo hi sl Q I rx hs pl pu h
 obtain ⟨a,xs,rfl,hx,q⟩:=h
 cases rx
 obtain ⟨its,r,ht,hz⟩:=I.list hx
 have hlen:=r.length
 refine ⟨"list",_,slot_list_getitem.lookup,ht.isList.typeIs,?_⟩
 refine wpAny_getItem_list_slice ht.isList hs pl pu .none (by simp) ?_ (by rw [List.size_toArray] <;> omega)
 rw [Pe,← hlen]
 refine ⟨.ref s.heap.objs.size,_,I.laid (t':=s.toks) (o:=.lst (cutV xs lo hi)) (fun b ob q=>Heap.get?_push_of_some _ q) (Nat.le_refl _) ?_,rfl,q _ (I.hok.fresh (Nat.le_refl _))⟩
 exact ⟨Nat.le_trans (Uu xs lo hi) hz,_,0,(r.drop (HT.sIx xs.length 0 lo)).take (HT.sIx xs.length xs.length hi - HT.sIx xs.length 0 lo),Heap.get?_push_size _ rfl⟩
def Cv:V->Bool
 | .non=>true
 | .bl _=>true
 | .int _=>true
 | .str _=>true
 | _=>false
def eqV:V->V->Bool
 | .non,.non=>true
 | .bl a,.bl b=>a==b
 | .bl a,.int b=>(if a then 1 else 0)==b
 | .int a,.bl b=>a==(if b then 1 else 0)
 | .int a,.int b=>a==b
 | .str a,.str b=>a==b
 | _,_=>false
theorem Wh {A:Around} {s:Shared} {y x:V} {u v:Value} (ry:RelV y u) (rx:RelV x v) (fy:Cv y=true) (fx:Cv x=true):SeqAt.EqAt A s u v (eqV y x):=by
 cases y with
 | non=>
   cases ry
   cases x with
   | non=>cases rx; exact SeqAt.EqAt.same _
   | bl b=>cases rx; exact SeqAt.EqAt.none_bool b
   | int b=>obtain ⟨t,rfl⟩:=rx; exact SeqAt.EqAt.none_int b t
   | str b=>obtain ⟨t,rfl⟩:=rx; exact SeqAt.EqAt.none_str b t
   | _=>exact absurd (show false=true from fx) Bool.false_ne_true
 | bl a=>
   cases ry
   cases x with
   | non=>cases rx; exact SeqAt.EqAt.bool_none a
   | bl b=>cases rx; exact SeqAt.EqAt.bool_bool a b
   | int b=>obtain ⟨t,rfl⟩:=rx; exact SeqAt.EqAt.bool_int a b t
   | str b=>obtain ⟨t,rfl⟩:=rx; exact SeqAt.EqAt.bool_str a b t
   | _=>exact absurd (show false=true from fx) Bool.false_ne_true
 | int a=>
   obtain ⟨t',rfl⟩:=ry
   cases x with
   | non=>cases rx; exact SeqAt.EqAt.int_none a t'
   | bl b=>cases rx; exact SeqAt.EqAt.int_bool a t' b
   | int b=>obtain ⟨t,rfl⟩:=rx; exact SeqAt.EqAt.int_int a t' b t
   | str b=>obtain ⟨t,rfl⟩:=rx; exact SeqAt.EqAt.int_str a t' b t
   | _=>exact absurd (show false=true from fx) Bool.false_ne_true
 | str a=>
   obtain ⟨t',rfl⟩:=ry
   cases x with
   | non=>cases rx; exact SeqAt.EqAt.str_none a t'
   | bl b=>cases rx; exact SeqAt.EqAt.str_bool a t' b
   | int b=>obtain ⟨t,rfl⟩:=rx; exact SeqAt.EqAt.str_int a t' b t
   | str b=>obtain ⟨t,rfl⟩:=rx; exact SeqAt.EqAt.str_str a t' b t
   | _=>exact absurd (show false=true from fx) Bool.false_ne_true
 | _=>exact absurd (show false=true from fy) Bool.false_ne_true
def eqU (x:V) (u:Value):Bool:=match u with
 | .none=>eqV .non x
 | .bool b=>eqV (.bl b) x
 | .int i _=>eqV (.int i) x
 | .str z _=>eqV (.str z) x
 | _=>false
theorem Sx {x y:V} {u:Value} (r:RelV y u) (f:Cv y=true):eqU x u=eqV y x:=by
 cases y with
 | non=>cases r; rfl
 | bl b=>cases r; rfl
 | int i=>obtain ⟨t,rfl⟩:=r; rfl
 | str z=>obtain ⟨t,rfl⟩:=r; rfl
 | _=>exact absurd (show false=true from f) Bool.false_ne_true
theorem Te {x:V}:∀ {xs:List V} {us:List Value},Vals xs us->xs.all Cv=true->us.any (eqU x)=xs.any fun y=>eqV y x
 | _,_,.nil,_=>rfl
 | y::xs,u::us,.cons r t,f=>by
   rw [List.all_cons,Bool.and_eq_true] at f
   rw [List.any_cons,List.any_cons,Sx r f.1,Te t f.2]
theorem Jz {A:Around} {s:Shared} {x:V} {v:Value} (rx:RelV x v) (fx:Cv x=true):∀ {xs:List V} {us:List Value},Vals xs us->xs.all Cv=true->∀ u∈us,SeqAt.EqAt A s u v (eqU x u)
 | _,_,.nil,_=>fun u hu=>by cases hu
 | y::xs,u::us,.cons r t,f=>fun u' hu=>by
   rw [List.all_cons,Bool.and_eq_true] at f
   rcases List.mem_cons.mp hu with rfl | hu
   ·rw [Sx r f.1]; exact Wh r rx f.1 fx
   ·exact Jz rx fx t f.2 u' hu
def inV (x:V) (xs:List V):Bool:=xs.any fun y=>eqV y x
def rIn (K:PySem.W.Frag) (neg:Bool):R2:=fun x y H Q=>∃ p xs,y=.ref p∧(SqL K H p xs∨SqT K H p xs)∧Cv x=true∧xs.all Cv=true∧Q (.bl (if neg then !inV x xs else inV x xs)) H
theorem Yl:OpR X (compareOp .In) (rIn X.K false):=by
 intro pins s σ H x y v u Q I rx ry h
 obtain ⟨p,xs,rfl,hq,fx,fs,q⟩:=h
 cases ry
 rcases hq with hq | hq
 ·obtain ⟨its,r,pl,hz⟩:=I.list hq
  refine SeqAt.in_listAt (eqU x) pl.isList (fun w hw=>Jz rx fx r fs w (by simpa using hw)) ⟨.bl _,H,I,rfl,?_⟩
  rw [show its.toArray.any (eqU x)=its.any (eqU x) by simp,Te r fs]
  exact q
 ·obtain ⟨its,r,pl,hz⟩:=I.tuple hq
  refine SeqAt.in_tupleAt (eqU x) pl (fun w hw=>Jz rx fx r fs w (by simpa using hw)) ⟨.bl _,H,I,rfl,?_⟩
  rw [show its.toArray.any (eqU x)=its.any (eqU x) by simp,Te r fs]
  exact q
theorem Dk:D4 X (.builtin "len") (fun xs H Q=>∃ p ys,xs=[.ref p]∧(SqL X.K H p ys∨SqT X.K H p ys)∧Q (.int ys.length) H):=by
 intro pins s σ H xs us Q I r h
 obtain ⟨p,ys,rfl,hq,q⟩:=h
 obtain ⟨u,rfl,rx⟩:=D3 r
 cases rx
 have hn:=Gz
 rcases hq with hq | hq
 ·obtain ⟨its,r',pl,hz⟩:=I.list hq
  have hlen:=r'.length
  exact Calls.call_len_list pl.isList (by simp only [List.size_toArray] <;> omega) ⟨.int ys.length,H,I.tok _,⟨s.toks+1,by rw [List.size_toArray,hlen]⟩,q⟩
 ·obtain ⟨its,r',pl,hz⟩:=I.tuple hq
  have hlen:=r'.length
  exact len_tuple pl (by simp only [List.size_toArray] <;> omega) ⟨.int ys.length,H,I.tok _,⟨s.toks+1,by rw [List.size_toArray,hlen]⟩,q⟩
theorem J9:D4 X (.builtin "len") (fun xs H Q=>∃ z,xs=[.str z]∧z.length≤sizeLine∧Q (.int z.length) H):=by
 intro pins s σ H xs us Q I r h
 obtain ⟨z,rfl,hz,q⟩:=h
 obtain ⟨u,rfl,t,rfl⟩:=D3 r
 have hn:=Gz
 exact len_str (by omega) ⟨.int z.length,H,I.tok _,⟨_,rfl⟩,q⟩
theorem J8:D4 X (.type "list") (fun xs H Q=>∃ p ys,xs=[.ref p]∧(SqL X.K H p ys∨SqT X.K H p ys)∧∀ l,H l=none->Q (.ref l) (upd H l (.lst ys))):=by
 intro pins s σ H xs us Q I r h
 obtain ⟨p,ys,rfl,hq,q⟩:=h
 obtain ⟨u,rfl,rx⟩:=D3 r
 cases rx
 have fin:∀ (its:List Value),Vals ys its->ys.length≤sizeLine->∀ (h':Heap) (c':Nat),(∀ b o',s.heap.get? b=some o'->h'.get? b=some o') ->
   h'.get? s.heap.objs.size=some {cls:=.type "list",dict:=none,data:=.seq its.toArray c',slots:=#[]}->EP X pins σ Q (.ref s.heap.objs.size) {s with heap:=h'}:=fun its r' hz h' c' kp e=>
  ⟨.ref s.heap.objs.size,_,I.laid (t':=s.toks) kp (Nat.le_refl _) (show B6 X.prog X.w _ h' _ (.lst ys) from ⟨hz,its,c',r',e⟩),rfl,q _ (I.hok.fresh (Nat.le_refl _))⟩
 rcases hq with hq | hq
 ·obtain ⟨its,r',pl,hz⟩:=I.list hq
  have hlen:=r'.length
  obtain ⟨o,ho,hc,n,hd⟩:=pl.isList
  exact call_list_seq p (.inl rfl) ho hc hd (fun h' c' kp e=>fin its r' hz h' c' kp e) (by simp only [List.size_toArray] <;> omega)
 ·obtain ⟨its,r',pl,hz⟩:=I.tuple hq
  have hlen:=r'.length
  obtain ⟨o,ho,hc,n,hd⟩:=pl
  exact call_list_seq p (.inr rfl) ho hc hd (fun h' c' kp e=>fin its r' hz h' c' kp e) (by simp only [List.size_toArray] <;> omega)
def tyV (K:PySem.W.Frag) (T:String) (x:V) (H:Hp):Prop:=match x with
 | .str _=>T="str"
 | .int _=>T="int"
 | .ref p=>(T="list"∧∃ xs,SqL K H p xs)∨(T="tuple"∧∃ o,K.lookup p=some o∧o.cls=.type "tuple"∧o.dict=none) ∨
    (T="dict"∧((∃ kvs,H p=some (.dK kvs))∨∃ kvs,H p=some (.dT kvs)))∨(T="set"∧∃ S n,H p=some (.set S n))
 | _=>False
theorem Z5 {pins:List (Addr×Obj)} {σ:St} {H:Hp} {s:Shared} {T:String} {x:V} {v:Value} (I:Inv X pins σ H s) (r:RelV x v) (ty:tyV X.K T x H) :
  s.TypeIs v T∧∀ a,v=.ref a->∃ ob,s.heap.get? a=some ob∧ob.dict=none:=by
 cases x with
 | str z=>
   obtain ⟨t,rfl⟩:=r
   cases (show T="str" from ty)
   exact ⟨typeIs_str s z t,fun _ e=>nomatch e⟩
 | int i=>
   obtain ⟨t,rfl⟩:=r
   cases (show T="int" from ty)
   exact ⟨typeIs_int s i t,fun _ e=>nomatch e⟩
 | ref p=>
   cases r
   rcases ty with ⟨rfl,xs,hq⟩ | ⟨rfl,o,hk,hc,hd⟩ | ⟨rfl,hk⟩ | ⟨rfl,S,n,hk⟩
   ·obtain ⟨its,_,pl,_⟩:=I.list hq
    refine ⟨pl.isList.typeIs,fun a e=>?_⟩
    cases e
    obtain ⟨o,n,e,c,hd,_⟩:=pl
    exact ⟨o,e,hd⟩
   ·refine ⟨⟨o,I.kIn p o hk,hc⟩,fun a e=>?_⟩
    cases e
    exact ⟨o,I.kIn _ o hk,hd⟩
   ·have z:∃ o,s.heap.get? p=some o∧o.ExactDict:=by
     rcases hk with ⟨kvs,hk⟩ | ⟨kvs,hk⟩
     ·obtain ⟨_,_,_,_,o,_,_,e,ex,_⟩:=I.hok p _ hk
      exact ⟨o,e,ex⟩
     ·obtain ⟨_,_,_,_,o,_,_,e,ex,_⟩:=I.hok p _ hk
      exact ⟨o,e,ex⟩
    obtain ⟨o,e,ex⟩:=z
    refine ⟨⟨o,e,ex.1⟩,fun a e2=>?_⟩
    cases e2
    exact ⟨o,e,ex.2.1⟩
   ·obtain ⟨o,_,_,_,e,ex,_⟩:=I.hok p _ hk
    refine ⟨⟨o,e,ex.1⟩,fun a e2=>?_⟩
    cases e2
    exact ⟨o,e,ex.2.1⟩
 | _=>exact False.elim ty
def tBM0 (K:PySem.W.Frag) (T:String) (r:V->List V->Hp->VK->Prop) (to:TE):TE:=fun σ H Q=>to σ H fun x H1=>tyV K T x H1∧r x [] H1 Q
def tBM (K:PySem.W.Frag) (T:String) (r:V->List V->Hp->VK->Prop) (to:TE) (t:TA):TE:=fun σ H Q=>to σ H fun x H1=>tyV K T x H1∧t σ H1 fun xs H2=>r x xs H2 Q
variable {o e:Expr} {es:List Expr} {to:TE} {t:TA} {name:Str} {apos cpos:Pos} {T id:String} {r:V->List V->Hp->VK->Prop}
theorem cB (pa:PlainAttrs T) (slot:Slot T name id) (hty:typeOf (.builtin id)=pure (.type "method_descriptor")) (hm:MtR X id r) (ho:PE X o to)
  (hbase:attributeBase o name X.env (eval o X.env)=eval o X.env:=by rfl) (hline:(apos.endLine==cpos.line)=true:=by rfl):PE X (.Call (.Attribute o name apos) [] [] cpos) (tBM0 X.K T r to):=by
 intro pins s σ H Q I h
 refine wpAny_Call_method0_late hbase hline (thn (ho pins s σ H _ I h) fun v s1 ⟨x,H1,I1,r1,ty,q1⟩=>?_)
 obtain ⟨h1,h2⟩:=Z5 I1 r1 ty
 exact ⟨T,id,pa,slot,hty,h1,h2,Calls.callWith_builtin rfl (PySem.evalArgs_none (hm pins s1 σ H1 x [] v [] Q I1 r1 .nil q1))⟩
theorem Pw (pa:PlainAttrs T) (slot:Slot T name id) (hty:typeOf (.builtin id)=pure (.type "method_descriptor")) (hm:MtR X id r) (ho:PE X o to) (ha:PA X (e::es) t)
  (hbase:attributeBase o name X.env (eval o X.env)=eval o X.env:=by rfl)
  (hfew:((backTo cpos (starEach (e::es) X.env)).all (fun x=>!x.1)&&(backToKw cpos (keywordEach [] X.env)).all (fun x=>x.1.isSome)
   &&decide ((e::es).length+([]:List Keyword).length+(if ([]:List Keyword).isEmpty then 0 else 1)<30))=true:=by rfl)
  (hline:(apos.endLine==cpos.line)=true:=by rfl) (hs:starEach (e::es) X.env=(false,eval e X.env)::starEach es X.env:=by rfl) (hplain:(backTo cpos (starEach es X.env)).any (·.1)=false:=by rfl) :
  PE X (.Call (.Attribute o name apos) (e::es) [] cpos) (tBM X.K T r to t):=by
 intro pins s σ H Q I h
 refine wpAny_Call_method_late hbase hfew hline rfl (thn (ho pins s σ H _ I h) fun v s1 ⟨x,H1,I1,r1,ty,q1⟩=>?_)
 obtain ⟨h1,h2⟩:=Z5 I1 r1 ty
 refine ⟨T,id,pa,slot,hty,h1,h2,?_⟩
 have hA:=ha cpos pins s1 σ H1 _ I1 q1
 rw [hs] at hA ⊢
 refine Calls.callWith_builtin (by show (false||(backTo cpos (starEach es X.env)).any (·.1))=false; rw [hplain] <;> rfl) (Calls.evalArgs_plain ?_)
 exact thn hA fun us s2 ⟨vs,H2,I2,r2,q2⟩=>hm pins s2 σ H2 x vs v us Q I2 r1 r2 q2
/- xs.append(e),list.index on a module's tuple .. are MtR facts of 06m -/
end
end L2
namespace L2
open PySem PySem.Spec PyProof.Rows
def MtM (X:Cx) (id:String) (r:V->List V->Hp->VK->Prop):Prop:=
 ∀ (pins:List (Addr×Obj)) (s:Shared) (σ:St) (H:Hp) (x:V) (xs:List V) (v:Value) (us:List Value) (Q:VK),Inv X pins σ H s->RelV x v->Vals xs us->r x xs H Q ->
  wpAny (model X.prog X.w) X.A (call (.builtin id) (v::us)) (EP X pins σ Q) X.xe s
theorem Vals.one:∀ {x:V} {us:List Value},Vals [x] us->∃ u,us=[u]∧RelV x u
 | _,_,.cons r .nil=>⟨_,rfl,r⟩
theorem Vals.zero:∀ {us:List Value},Vals [] us->us=[]
 | _,.nil=>rfl
theorem Vals.dropLast {xs:List V} {us:List Value} (h:Vals xs us):Vals xs.dropLast us.dropLast:=by
 induction h with
 | nil=>exact .nil
 | cons r t ih=>
   cases t with
   | nil=>exact .nil
   | cons q t'=>exact .cons r ih
theorem Wg {α:Type} (l:List α):l.eraseIdx (l.length - 1)=l.dropLast:=by
 induction l with
 | nil=>rfl
 | cons a r ih=>
   cases r with
   | nil=>rfl
   | cons b r=>
     have e:(a::b::r).length - 1=((b::r).length - 1)+1:=by
      have h1:(a::b::r).length=r.length+2:=rfl
      have h2:(b::r).length=r.length+1:=rfl
      omega
     rw [e,List.eraseIdx_cons_succ,ih]
     all_goals rfl
section
variable {X:Cx} {pins:List (Addr×Obj)} {σ:St} {H:Hp} {s:Shared} {l b:Addr} {xs ys zs:List V}
theorem Inv.lset {its its':List Value} {n:Nat} {f:Array Value->Array Value} {t':Nat} (I:Inv X pins σ H s) (hH:H l=some (.lst xs))
  (e:s.heap.get? l=some {cls:=.type "list",data:=.seq its.toArray n}) (hf:f its.toArray=its'.toArray) (hv:Vals ys its') (hz:ys.length≤sizeLine) :
  Inv X pins σ (upd H l (.lst ys)) {s with heap:=s.heap.update l (Obj.mapSeq f),toks:=t'}:=by
 have q:=PySem.IsL.update e f
 rw [hf] at q
 refine I.write (x:=l) (e:=l) (by rw [hH]; exact trivial) (.inl rfl) (fun b' u hb hu=>(Heap.get?_update_other s.heap (Obj.mapSeq f) (Ne.symm hb)).trans hu) ⟨_,q⟩ ?_
 exact ⟨hz,its',_,hv,q⟩
theorem Inv.lnew {its:List Value} {t':Nat} (I:Inv X pins σ H s) (hv:Vals ys its) (hz:ys.length≤sizeLine) :
  Inv X pins σ (upd H s.heap.objs.size (.lst ys)) {s with heap:=s.heap.push {cls:=.type "list",data:=.seq its.toArray},toks:=t'}:=
 I.laid (fun _ _ q=>Heap.get?_push_of_some _ q) (Nat.le_refl _) ⟨hz,its,0,hv,Heap.get?_push_size _ rfl⟩
theorem Inv.fresh (I:Inv X pins σ H s):H s.heap.objs.size=none:=I.hok.fresh (Nat.le_refl _)
theorem Inv.lstM (I:Inv X pins σ H s) (hH:H l=some (.lst xs)):xs.length≤sizeLine∧∃ (its:List Value) (n:Nat),Vals xs its∧xs.length=its.length∧s.heap.get? l=some {cls:=.type "list",data:=.seq its.toArray n}:=by
 obtain ⟨z,its,n,r,e⟩:=I.hok l _ hH
 exact ⟨z,its,n,r,r.length,e⟩
end
section
variable {X:Cx}
def fV:V->List V->Hp->VK->Prop:=fun x vs H Q=>∃ l xs y,x=.ref l∧vs=[y]∧H l=some (.lst xs)∧xs.length<sizeLine∧Q .non (upd H l (.lst (xs++[y])))
theorem Ks:MtM X "list.append" fV:=by
 intro pins s σ H x vs v us Q I rx rv h
 obtain ⟨l,xs,y,rfl,rfl,hH,hz,q⟩:=h
 cases rx
 obtain ⟨u,rfl,ru⟩:=rv.one
 obtain ⟨z,its,n,r,hl,e⟩:=I.lstM hH
 refine call_meets F.slot_list_append ⟨_,e,rfl⟩ F.entry_list_append (F.args_list_append_2 _ _) (PySem.list_append l its.toArray n u (by rw [List.size_toArray]; omega)) ⟨e,?_⟩
 refine ⟨.non,_,I.lset (its':=its++[u]) hH e (by simp) (r.append (.cons ru .nil)) ?_,rfl,q⟩
 rw [List.length_append,List.length_singleton]
 omega
def rPop:V->List V->Hp->VK->Prop:=fun x vs H Q=>∃ l xs y,x=.ref l∧vs=[]∧H l=some (.lst xs)∧xs[xs.length - 1]?=some y∧Q y (upd H l (.lst xs.dropLast))
theorem kA:MtM X "list.pop" rPop:=by
 intro pins s σ H x vs v us Q I rx rv h
 obtain ⟨l,xs,y,rfl,rfl,hH,hy,q⟩:=h
 cases rx
 have hus:=rv.zero
 subst hus
 obtain ⟨z,its,n,r,hl,e⟩:=I.lstM hH
 obtain ⟨u,hu,ru⟩:=r.get hy
 have hy':its.toArray[its.toArray.size - 1]?=some u:=by
  show its.toArray[its.length - 1]?=some u
  rw [← Array.getElem?_toList,← hl]
  exact hu
 refine call_meets F.slot_list_pop ⟨_,e,rfl⟩ F.entry_list_pop (F.args_list_pop_1 _) (MeetsSeq.list_pop_last l its.toArray n u hy' (by rw [List.size_toArray]; omega)) ⟨e,?_⟩
 refine ⟨y,_,I.lset (its':=its.dropLast) hH e ?_ r.dropLast ?_,ru,q⟩
 ·show its.toArray.eraseIdxIfInBounds (its.toArray.size - 1)=its.dropLast.toArray
  rw [List.size_toArray,List.eraseIdxIfInBounds_toArray,Wg]
 ·rw [List.length_dropLast]
  omega
def rCat:R2:=fun x y H Q=>∃ l b xs zs,x=.ref l∧y=.ref b∧H l=some (.lst xs)∧H b=some (.lst zs)∧xs.length+zs.length≤sizeLine∧∀ p,H p=none->Q (.ref p) (upd H p (.lst (xs++zs)))
theorem jS:OpR X (binaryOp .Add) rCat:=by
 intro pins s σ H x y v u Q I rx ry h
 obtain ⟨l,b,xs,zs,rfl,rfl,hH,hB,hz,q⟩:=h
 cases rx
 cases ry
 obtain ⟨z,its,n,r,hl,e⟩:=I.lstM hH
 obtain ⟨z2,its2,n2,r2,hl2,e2⟩:=I.lstM hB
 refine PySem.P.add_list e e2 ?_ (by rw [List.size_toArray,List.size_toArray]; omega)
 have ea:its.toArray++its2.toArray=(its++its2).toArray:=by simp
 rw [ea]
 exact ⟨.ref _,_,I.lnew (t':=s.toks) (r.append r2) (by rw [List.length_append]; omega),rfl,q _ I.fresh⟩
end
section
variable {prog:Program} {w:World} {A:Around} {E:Value->Shared->Prop} {s:Shared}
set_option maxRecDepth 100000 in
end
section
variable {X:Cx}
end
end L2
namespace L2
open PySem PySem.Spec PyProof.Rows
section
variable {κ:Type} [DecidableEq κ]
def valV (kvs:List (κ×V)) (k:κ):Option V:=(kvs.find? fun kv=>decide (kv.1=k)).map (·.2)
def putK (kvs:List (κ×V)) (k:κ) (v:V):List (κ×V):=
 if (kvs.any fun kv=>decide (kv.1=k))=true then kvs.map (fun kv=>if kv.1=k then (kv.1,v) else kv) else kvs++[(k,v)]
def Dy (kvs:List (κ×V)) (k:κ):List (κ×V):=kvs.filter fun kv=>decide (kv.1≠k)
theorem Ev {p:κ×V} {r:List (κ×V)} {k:κ} (e:p.1=k):valV (p::r) k=some p.2:=by simp [valV,List.find?_cons,e]
theorem Ew {p:κ×V} {r:List (κ×V)} {k:κ} (e:¬ p.1=k):valV (p::r) k=valV r k:=by simp [valV,List.find?_cons,e]
theorem Jk (k:κ):∀ kvs:List (κ×V),(kvs.any fun kv=>decide (kv.1=k))=(valV kvs k).isSome
 | []=>rfl
 | p::r=>by
   rw [List.any_cons]
   by_cases e:p.1=k
   ·simp only [Ev e,decide_eq_true e,Bool.true_or,Option.isSome_some]
   ·rw [Ew e,decide_eq_false e,Bool.false_or]; exact Jk k r
theorem Lb (kvs:List (κ×V)) (k:κ) (v:V):(putK kvs k v).length≤kvs.length+1:=by
 unfold putK
 split
 ·rw [List.length_map]; omega
 ·rw [List.length_append,List.length_cons,List.length_nil]; omega
theorem N1 {kvs:List (κ×V)} {k:κ} (v:V) (h:valV kvs k=none):putK kvs k v=kvs++[(k,v)]:=by
 unfold putK
 rw [Jk,h]
 exact if_neg (by decide)
theorem RelO.isSome_eq {o:Option V} {u:Option Value} (r:RelO o u):o.isSome=u.isSome:=by
 cases o with
 | none=>cases u with
   | none=>rfl
   | some _=>exact (show False from r).elim
 | some _=>cases u with
   | none=>exact (show False from r).elim
   | some _=>rfl
theorem RelO.getD {o:Option V} {u:Option Value} {d:V} {d':Value} (r:RelO o u) (rd:RelV d d'):RelV (o.getD d) (u.getD d'):=by
 cases o with
 | none=>cases u with
   | none=>exact rd
   | some _=>exact (show False from r).elim
 | some _=>cases u with
   | none=>exact (show False from r).elim
   | some _=>exact r
theorem KV.val {kvs:List (κ×V)} {vs:List (κ×Value)} (r:KV kvs vs) (k:κ):RelO (valV kvs k) (valueAt vs k):=by
 unfold KV at r
 induction r with
 | nil=>exact True.intro
 | @cons p q ps qs h t ih=>
   obtain ⟨h1,h2⟩:=h
   by_cases e:p.1=k
   ·have e':q.1=k:=h1.symm.trans e
    have b:valueAt (q::qs) k=some q.2:=by simp [valueAt,List.find?_cons,e']
    rw [Ev e,b]; exact h2
   ·have e':¬ q.1=k:=fun z=>e (h1.trans z)
    have b:valueAt (q::qs) k=valueAt qs k:=by simp [valueAt,List.find?_cons,e']
    rw [Ew e,b]; exact ih
theorem KV.any {kvs:List (κ×V)} {vs:List (κ×Value)} (r:KV kvs vs) (k:κ):(kvs.any fun kv=>decide (kv.1=k))=vs.any fun kv=>decide (kv.1=k):=by
 unfold KV at r
 induction r with
 | nil=>rfl
 | cons h t ih=>rw [List.any_cons,List.any_cons,ih,h.1]
theorem KV.repl {kvs:List (κ×V)} {vs:List (κ×Value)} (r:KV kvs vs) (k:κ) {y:V} {u:Value} (ry:RelV y u) :
  KV (kvs.map fun kv=>if kv.1=k then (kv.1,y) else kv) (vs.map fun kv=>if kv.1=k then (kv.1,u) else kv):=by
 unfold KV at r ⊢
 induction r with
 | nil=>exact .nil
 | @cons p q ps qs h t ih=>
   rw [List.map_cons,List.map_cons]
   refine .cons ?_ ih
   obtain ⟨h1,h2⟩:=h
   by_cases e:p.1=k
   ·rw [if_pos e,if_pos (h1.symm.trans e)]; exact ⟨h1,ry⟩
   ·rw [if_neg e,if_neg (fun z=>e (h1.trans z))]; exact ⟨h1,h2⟩
theorem KV.put {kvs:List (κ×V)} {vs:List (κ×Value)} (r:KV kvs vs) (k:κ) {y:V} {u:Value} (ry:RelV y u):KV (putK kvs k y) (stored vs k u):=by
 unfold putK stored
 rw [r.any k]
 by_cases e:(vs.any fun kv=>decide (kv.1=k))=true
 ·rw [if_pos e,if_pos e]; exact r.repl k ry
 ·rw [if_neg e,if_neg e]; exact Paired.snoc r ⟨rfl,ry⟩
theorem KV.drop {kvs:List (κ×V)} {vs:List (κ×Value)} (r:KV kvs vs) (k:κ):KV (Dy kvs k) (without vs k):=by
 unfold KV at r ⊢
 unfold Dy without
 induction r with
 | nil=>exact .nil
 | @cons p q ps qs h t ih=>
   obtain ⟨h1,h2⟩:=h
   rw [List.filter_cons,List.filter_cons]
   by_cases e:p.1=k
   ·have a:¬ decide (p.1≠k)=true:=by simp [e]
    have b:¬ decide (q.1≠k)=true:=by simp [h1.symm.trans e]
    rw [if_neg a,if_neg b]; exact ih
   ·have e':¬ q.1=k:=fun z=>e (h1.trans z)
    have a:decide (p.1≠k)=true:=by simp [e]
    have b:decide (q.1≠k)=true:=by simp [e']
    rw [if_pos a,if_pos b]; exact .cons ⟨h1,h2⟩ ih
theorem KV.length {kvs:List (κ×V)} {vs:List (κ×Value)} (r:KV kvs vs):kvs.length=vs.length:=Paired.length r
theorem eC (kvs:List (κ×V)) (k:κ):(Dy kvs k).length≤kvs.length:=List.length_filter_le _ _
end
theorem Om {P:Program} {w:World} {k:Key} {u:Value} (r:RelV (kV k) u):(A6 P w).is k u=true:=by
 cases k with
 | inl i=>obtain ⟨t,e⟩:=(show ∃ t,u=Value.int i t from r); subst e; exact Ul P w i t
 | inr x=>obtain ⟨t,e⟩:=(show ∃ t,u=Value.str x t from r); subst e; exact Uk P w x t
theorem P9 {P:Program} {w:World}:∀ {ks:List Key} {us:List Value},Vals (ks.map kV) us->ItemsAre (A6 P w) ks us
 | [],_,r=>by rw [List.map_nil] at r; cases r; exact .nil
 | k::ks,_,r=>by
   rw [List.map_cons] at r
   cases r with
   | cons h t=>exact .cons (Om h) (P9 t)
abbrev KT (H:Hp):List (List Key×V)->List (List Key×Addr×Value)->Prop:=Paired fun p q=>p.1=q.1∧H q.2.1=some (.tup (p.1.map kV))∧RelV p.2 q.2.2
theorem KT.val {H:Hp} {kvs:List (List Key×V)} {xs:List (List Key×Addr×Value)} (r:KT H kvs xs) (k:List Key):RelO (valV kvs k) ((atKey xs k).map (·.2)):=by
 induction r with
 | nil=>exact True.intro
 | @cons p q ps qs h t ih=>
   obtain ⟨h1,_,h2⟩:=h
   by_cases e:p.1=k
   ·have e':q.1=k:=h1.symm.trans e
    have b:atKey (q::qs) k=some q.2:=by simp [atKey,List.find?_cons,e']
    rw [Ev e,b]; exact h2
   ·have e':¬ q.1=k:=fun z=>e (h1.trans z)
    have b:atKey (q::qs) k=atKey qs k:=by simp [atKey,List.find?_cons,e']
    rw [Ew e,b]; exact ih
theorem KT.repl {H:Hp} {kvs:List (List Key×V)} {xs:List (List Key×Addr×Value)} (r:KT H kvs xs) (k:List Key) {y:V} {u:Value} (ry:RelV y u) :
  KT H (kvs.map fun kv=>if kv.1=k then (kv.1,y) else kv) (xs.map (putAt k u)):=by
 induction r with
 | nil=>exact .nil
 | @cons p q ps qs h t ih=>
   rw [List.map_cons,List.map_cons]
   refine .cons ?_ ih
   obtain ⟨h1,h2,h3⟩:=h
   unfold putAt
   by_cases e:p.1=k
   ·rw [if_pos e,if_pos (h1.symm.trans e)]; exact ⟨h1,h2,ry⟩
   ·rw [if_neg e,if_neg (fun z=>e (h1.trans z))]; exact ⟨h1,h2,h3⟩
theorem KT.put {H:Hp} {kvs:List (List Key×V)} {xs:List (List Key×Addr×Value)} (r:KT H kvs xs) (k:List Key) {b:Addr} {y:V} {u:Value} (hb:H b=some (.tup (k.map kV))) (ry:RelV y u) :
  KT H (putK kvs k y) (storedH xs k b u):=by
 have e:(kvs.any fun kv=>decide (kv.1=k))=(atKey xs k).isSome:=by
  rw [Jk,(r.val k).isSome_eq,Option.isSome_map]
 unfold putK storedH
 rw [e]
 by_cases q:(atKey xs k).isSome=true
 ·rw [if_pos q,if_pos q]; exact r.repl k ry
 ·rw [if_neg q,if_neg q]; exact Paired.snoc r ⟨rfl,hb,ry⟩
theorem KT.keeps {H H':Hp} {kvs:List (List Key×V)} {xs:List (List Key×Addr×Value)} (r:KT H kvs xs) (ht:∀ b ys,H b=some (.tup ys)->H' b=some (.tup ys)):KT H' kvs xs:=
 Paired.mapP r fun _ _ z=>⟨z.1,ht _ _ z.2.1,z.2.2⟩
section
variable {P:Program} {w:World} {H:Hp} {h:Heap} {a:Addr}
theorem iL {u:HO} (ok:HOk P w H h) (e:Rd H a u):B6 P w H h a u:=e.ok ok
theorem Ip {kvs:List (Key×V)} (ok:HOk P w H h) (e:Rd H a (.dK kvs)):kvs.length≤sizeLine∧(a==sysModules)=false∧∃ vs,KV kvs vs∧h.DictOf (A6 P w) a vs:=
 show B6 P w H h a (.dK kvs) from iL ok e
theorem eJ {kvs:List (Key×V)} (ok:HOk P w H h) (e:H a=some (.dK kvs)):kvs.length≤sizeLine∧(a==sysModules)=false∧∃ vs,KV kvs vs∧h.DictOf (A6 P w) a vs:=Ip ok (.inl e)
theorem Kw {ks:List Key} (ok:HOk P w H h) (e:H a=some (.tup (ks.map kV))):(tupleKind (A6 P w)).is h ks a:=by
 obtain ⟨_,its,r,o,h1,h2,n,h3⟩:=(show B6 P w H h a (.tup (ks.map kV)) from ok a _ e)
 exact ⟨o,its.toArray,n,h1,h2,h3,by simpa using P9 r⟩
theorem O2 {kvs:List (List Key×V)} (ok:HOk P w H h) (e:Rd H a (.dT kvs)):kvs.length≤sizeLine∧(a==sysModules)=false ∧
  ∃ xs,KT H kvs xs∧h.DictOfH (tupleKind (A6 P w)) a xs:=by
 obtain ⟨z,y,xs,r,o,es,ep,h1,h2,h3,h4,h5⟩:=(show B6 P w H h a (.dT kvs) from iL ok e)
 refine ⟨z,y,xs,r,o,es,ep,h1,h2,h3,h4,fun x hx=>?_,h5⟩
 have all:∀ {l:List (List Key×V)} {m:List (List Key×Addr×Value)},KT H l m->∀ x∈m,(tupleKind (A6 P w)).is h x.1 x.2.1:=by
  intro l m q
  induction q with
  | nil=>intro x hx; exact nomatch hx
  | @cons p q ps qs hq t ih=>
    intro x hx
    rcases List.mem_cons.mp hx with e | hx
    ·subst e
     exact Kw ok (by rw [← hq.1]; exact hq.2.1)
    ·exact ih x hx
 exact all r x hx
theorem dt_of {kvs:List (List Key×V)} (ok:HOk P w H h) (e:H a=some (.dT kvs)):kvs.length≤sizeLine∧(a==sysModules)=false ∧
  ∃ xs,KT H kvs xs∧h.DictOfH (tupleKind (A6 P w)) a xs:=O2 ok (.inl e)
end
def DGet (H:Hp) (a:Addr) (y:V) (r:Option V):Prop:=
 (∃ kvs k,Rd H a (.dK kvs)∧y=kV k∧r=valV kvs k)∨∃ kvs k b,Rd H a (.dT kvs)∧y=.ref b∧H b=some (.tup (k.map kV))∧r=valV kvs k
def DPut (H:Hp) (a:Addr) (y v:V) (H':Hp):Prop:=
 (∃ kvs k,H a=some (.dK kvs)∧y=kV k∧kvs.length<sizeLine∧H'=upd H a (.dK (putK kvs k v))) ∨
 ∃ kvs k b,H a=some (.dT kvs)∧y=.ref b∧H b=some (.tup (k.map kV))∧kvs.length<sizeLine∧H'=upd H a (.dT (putK kvs k v))
theorem DGet.k {H:Hp} {a:Addr} {kvs:List (Key×V)} {k:Key} (e:H a=some (.dK kvs)):DGet H a (kV k) (valV kvs k):=.inl ⟨kvs,k,.inl e,rfl,rfl⟩
theorem DPut.k {H:Hp} {a:Addr} {kvs:List (Key×V)} {k:Key} {v:V} (e:H a=some (.dK kvs)) (hl:kvs.length<sizeLine):DPut H a (kV k) v (upd H a (.dK (putK kvs k v))):=.inl ⟨kvs,k,e,rfl,hl,rfl⟩
section
variable {X:Cx} {pins:List (Addr×Obj)} {σ:St} {H:Hp} {s:Shared} {a:Addr} {y v:V} {u r:Value} {o:Option V} {A:Around} {E:Value->Shared->Prop}
theorem Inv.big (I:Inv X pins σ H s):sysModules<s.heap.objs.size:=by
 have h:mainGlobals<s.heap.objs.size:=(I.mod.glob.keeps I.bk).lt
 exact Nat.lt_trans (by decide) h
theorem Zn {Q:Value->Shared->Prop} (hu:A.units+1<cLine) (I:Inv X pins σ H s) (g:DGet H a y (some v)) (ry:RelV y u) (h:∀ w' s',Inv X pins σ H s'->RelV v w'->Q w' s') :
  wpAny (model X.prog X.w) A (getItem (.ref a) u) Q E s:=by
 rcases g with ⟨kvs,k,e,ey,l⟩ | ⟨kvs,k,b,e,ey,eb,l⟩
 ·subst ey
  obtain ⟨z,hd,vs,rel,dd⟩:=Ip I.hok e
  obtain ⟨w',hw,rw'⟩:=RelO.some_of (v:=v) (o:=valueAt vs k) (by rw [l]; exact rel.val k)
  exact wpAny_getItem_of (Om ry) dd.mapOf hw (h w' _ (I.tok _) rw')
 ·subst ey
  cases (show u=Value.ref b from ry)
  obtain ⟨z,hd,xs,rel,dd⟩:=O2 I.hok e
  obtain ⟨w',hw,rw'⟩:=RelO.some_of (v:=v) (o:=(atKey xs k).map (·.2)) (by rw [l]; exact rel.val k)
  obtain ⟨p,hp,hp2⟩:=Option.map_eq_some_iff.mp hw
  refine wpAny_getItem_heap (tupleKind_room_in1 hu) (Kw I.hok eb) dd hp ?_
  rw [hp2]
  exact h w' _ (I.tok _) rw'
theorem d_in {Q:Value->Shared->Prop} (hu:A.units+1<cLine) (I:Inv X pins σ H s) (g:DGet H a y o) (ry:RelV y u) (h:∀ s',Inv X pins σ H s'->Q (.bool o.isSome) s') :
  wpAny (model X.prog X.w) A (compareOp .In u (.ref a)) Q E s:=by
 rcases g with ⟨kvs,k,e,ey,l⟩ | ⟨kvs,k,b,e,ey,eb,l⟩
 ·subst ey
  obtain ⟨z,hd,vs,rel,dd⟩:=Ip I.hok e
  refine wpAny_in_of (Om ry) hd dd.mapOf ?_
  rw [← (rel.val k).isSome_eq,← l]
  exact h _ (I.tok _)
 ·subst ey
  cases (show u=Value.ref b from ry)
  obtain ⟨z,hd,xs,rel,dd⟩:=O2 I.hok e
  refine wpAny_in_heap (tupleKind_room_in1 hu) (Kw I.hok eb) hd dd ?_
  have q:=(rel.val k).isSome_eq
  rw [Option.isSome_map] at q
  rw [← q,← l]
  exact h _ (I.tok _)
theorem Sz {h':Heap} {t':Nat} {ob:HO} (I:Inv X pins σ H s) (mu:Mut (H a)) (hs:Heap.SameBut a s.heap h') (he:∃ q,h'.get? a=some q) (new:B6 X.prog X.w (upd H a ob) h' a ob) :
  Inv X pins σ (upd H a ob) {s with heap:=h',toks:=t'}:=
 I.write (x:=a) (e:=a) mu (.inl rfl) (fun b q hb z=>(hs.2 b hb).trans z) he new
theorem eK {P:Program} {w:World} {H':Hp} {h':Heap} {kvs:List (Key×V)} {vs:List (Key×Value)} (z:kvs.length≤sizeLine) (hd:(a==sysModules)=false) (rel:KV kvs vs) (dd:h'.DictOf (A6 P w) a vs) :
  B6 P w H' h' a (.dK kvs):=⟨z,hd,vs,rel,dd⟩
theorem Zm {H':Hp} {Q:Unit->Shared->Prop} (hu:A.units+1<cLine) (I:Inv X pins σ H s) (g:DPut H a y v H') (ry:RelV y u) (rv:RelV v r) (h:∀ s',Inv X pins σ H' s'->Q () s') :
  wpAny (model X.prog X.w) A (setItem (.ref a) u r) Q E s:=by
 rcases g with ⟨kvs,k,e,ey,l,eH⟩ | ⟨kvs,k,b,e,ey,eb,l,eH⟩
 ·subst ey eH
  obtain ⟨z,hd,vs,rel,dd⟩:=eJ I.hok e
  have hz:vs.length≤sizeLine:=by rw [← rel.length]; exact z
  have hl:(putK kvs k v).length≤sizeLine:=by have:=Lb kvs k v; omega
  refine wpAny_setItem_pairs (hsz:=hz) (Om ry) dd fun h' dd' hs=>h _ ?_
  have he:∃ q,h'.get? a=some q:=let ⟨q,_,_,hq,_⟩:=dd'; ⟨q,hq⟩
  exact Sz I (by rw [e]; exact True.intro) hs he (eK hl hd (rel.put k rv) dd')
 ·subst ey eH
  cases (show u=Value.ref b from ry)
  obtain ⟨z,hd,xs,rel,dd⟩:=dt_of I.hok e
  have hz:xs.length≤sizeLine:=by rw [← Paired.length rel]; exact z
  have hl:(putK kvs k v).length≤sizeLine:=by have:=Lb kvs k v; omega
  refine wpAny_setItem_heap (hsz:=hz) (tupleKind_room_in1 hu) (Kw I.hok eb) dd fun h' dd' hs=>h _ ?_
  obtain ⟨q,es,ep,hq,h2,h3,h4,_,h5⟩:=dd'
  refine Sz I (by rw [e]; exact True.intro) hs ⟨q,hq⟩ ⟨hl,hd,_,(rel.put k eb rv).keeps fun c ys ec=>?_,q,es,ep,hq,h2,h3,h4,h5⟩
  rw [Ae (Il ec e (fun z=>nomatch z))]
  exact ec
end
section
variable {X:Cx} {pins:List (Addr×Obj)} {σ:St} {H:Hp} {s:Shared} {a:Addr} {kvs:List (Key×V)} {k:Key} {u:Value} {A:Around} {E:Value->Shared->Prop}
theorem d_pop {v:V} {more:List Value} {Q:Value->Shared->Prop} (I:Inv X pins σ H s) (e:H a=some (.dK kvs)) (ry:RelV (kV k) u) (l:valV kvs k=some v) (hm:more=[]∨∃ x,more=[x])
  (h:∀ w' s',Inv X pins σ (upd H a (.dK (Dy kvs k))) s'->RelV v w'->Q w' s'):wpAny (model X.prog X.w) A (call (.builtin "dict.pop") (.ref a::u::more)) Q E s:=by
 obtain ⟨z,hd,vs,rel,dd⟩:=eJ I.hok e
 obtain ⟨w',hw,rw'⟩:=RelO.some_of (v:=v) (o:=valueAt vs k) (by rw [← l]; exact rel.val k)
 have hp:(keyPart u).isSome=true:=by
  cases k with
  | inl i=>obtain ⟨t,q⟩:=(show ∃ t,u=Value.int i t from ry); subst q; rfl
  | inr x=>obtain ⟨t,q⟩:=(show ∃ t,u=Value.str x t from ry); subst q; rfl
 have ha:argsOk "dict.pop" ⟨.ref a::u::more,[]⟩:=by
  rcases hm with q | ⟨x,q⟩
  ·subst q; exact PySem.F.args_dict_pop_2 _ _
  ·subst q; exact PySem.F.args_dict_pop_3 _ _ _
 refine call_meetsIn PySem.F.slot_dict_pop dd.typeIs PySem.F.entry_dict_pop ha (meets_dict_pop_there (A6 X.prog X.w) a (Om ry) more hm hp)
  ⟨vs,w',dd,by rw [← rel.length]; exact z,hw,fun h' dd' hs=>h w' _ ?_ rw'⟩
 have he:∃ q,h'.get? a=some q:=let ⟨q,_,_,hq,_⟩:=dd'; ⟨q,hq⟩
 exact Sz I (by rw [e]; exact True.intro) hs he (eK (Nat.le_trans (eC kvs k) z) hd (rel.drop k) dd')
theorem d_len {Q:Value->Shared->Prop} (I:Inv X pins σ H s) (e:Rd H a (.dK kvs)) (h:∀ t s',Inv X pins σ H s'->Q (.int kvs.length t) s'):wpAny (model X.prog X.w) A (call (.builtin "len") [.ref a]) Q E s:=by
 obtain ⟨z,hd,vs,rel,dd⟩:=Ip I.hok e
 refine call_len_dict hd dd (by rw [← rel.length]; rw [sizeLine_eq] at z; omega) ?_
 rw [← rel.length]
 exact h _ _ (I.tok _)
end
def NoSl (i:Expr):Prop:=∀ ov iv,subscripted i false ov iv=operate [ov,iv] (getItem ov iv)
theorem fB {prog:Program} {w:World} {A:Around} {E:Value->Shared->Prop} {s:Shared} {env:Env} {value slice:Expr} {pos:Pos} {T id:String} {Q:Value->Shared->Prop}
  (hl:typeLookup (.type T) "__getitem__"=pure (some (.builtin id))) (hs:NoSl slice)
  (h:wpAny (model prog w) A (eval value env) (fun o s₁=>wpAny (model prog w) A (eval slice env) (fun i s₂=>s₂.TypeIs o T∧wpAny (model prog w) A (getItem o i) Q E s₂) E s₁) E s) :
  wpAny (model prog w) A (eval (.Subscript value slice pos) env) Q E s:=by
 refine Subscript_ (wpAny_mono h (fun o s₁ h₁=>wpAny_mono h₁ (fun i s₂ h₂=>?_) fun _ _ x=>x) fun _ _ x=>x)
 obtain ⟨hT,h₂⟩:=h₂
 unfold subscriptTail
 refine wpAny_bind ?_
 rw [getitemInPython_of_ne hT.not_modules]
 refine wpAny_bind (wpAny_specialOf hT hl ?_)
 have fin:wpAny (model prog w) A (subscripted slice false o i) (fun r s₃=>wpAny (model prog w) A (letTemporaryGo value o r>>=fun _=>pure r) Q E s₃) E s₂:=by
  rw [hs o i]
  exact wpAny_operating (wpAny_mono h₂ (fun r s₃ h₃=>wpAny_bind (wpAny_letTemporaryGo (wpAny_pure h₃))) fun _ _ x=>x)
 first
  | exact wpAny_pure (wpAny_bind fin)
  | exact wpAny_bind (wpAny_pure (wpAny_bind fin))
  | exact wpAny_bind fin
theorem Ut {X:Cx} {pins:List (Addr×Obj)} {σ:St} {H:Hp} {s:Shared} {a:Addr} {y:V} {o:Option V} (I:Inv X pins σ H s) (g:DGet H a y o):s.TypeIs (.ref a) "dict":=by
 rcases g with ⟨kvs,k,e,_,_⟩ | ⟨kvs,k,b,e,_,_,_⟩
 ·obtain ⟨_,_,vs,_,dd⟩:=Ip I.hok e
  exact dd.typeIs
 ·obtain ⟨_,_,xs,_,dd⟩:=O2 I.hok e
  exact dd.typeIs
def tDGet (td ty:TE):TE:=fun σ H Q=>td σ H fun x H1=>ty σ H1 fun y H2=>∃ a v,x=.ref a∧DGet H2 a y (some v)∧Q v H2
def tDIn (ty td:TE):TE:=fun σ H Q=>ty σ H fun y H1=>td σ H1 fun x H2=>∃ a o,x=.ref a∧DGet H2 a y o∧Q (.bl o.isSome) H2
def sDPut (td ty tv:TE):TS:=fun D σ H=>tv σ H fun v H1=>td σ H1 fun x H2=>ty σ H2 fun y H3=>∃ a H4,x=.ref a∧DPut H3 a y v H4∧D.nx σ H4
section
variable {X:Cx} {o i e value:Expr} {pos pos' tpos:Pos} {td ty tv:TE}
theorem D7 (hu:X.A.units+1<cLine) (ho:PE X o td) (hi:PE X i ty) (hs:NoSl i):PE X (.Subscript o i pos) (tDGet td ty):=by
 intro pins s σ H Q I h
 refine fB PySem.F.slot_dict_getitem.lookup hs (thn (ho pins s σ H _ I h) fun u s1 ⟨x,H1,I1,rx,q1⟩=>thn (hi pins s1 σ H1 _ I1 q1) fun iv s2 ⟨y,H2,I2,ry,a,v,ex,g,q2⟩=>?_)
 subst ex
 obtain rfl:u=Value.ref a:=rx
 exact ⟨Ut I2 g,Zn hu I2 g ry fun w' s3 I3 rw'=>⟨v,H2,I3,rw',q2⟩⟩
theorem Rw (hu:X.A.units+1<cLine) (hi:PE X i ty) (ho:PE X o td):PC X .In i o (tDIn ty td):=by
 intro pins s σ H Q I h
 refine thn (hi pins s σ H _ I h) fun iv s1 ⟨y,H1,I1,ry,q1⟩=>thn (ho pins s1 σ H1 _ I1 q1) fun u s2 ⟨x,H2,I2,rx,a,ov,ex,g,q2⟩=>?_
 subst ex
 obtain rfl:u=Value.ref a:=rx
 exact d_in hu I2 g ry fun s3 I3=>⟨.bl ov.isSome,H2,I3,rfl,q2⟩
theorem Jv (hu:X.A.units+1<cLine) (ho:PE X o td) (hi:PE X i ty) (hv:PE X value tv) (hs:swapsWith value (some (.Subscript o i pos')) pos.line X.env=pure false) :
  PS X (.Assign [.Subscript o i pos'] value pos) (sDPut td ty tv):=by
 intro pins s σ H D I h
 refine wpAny_Assign_Subscript (thn (hv pins s σ H _ I h) fun r s1 ⟨v,H1,I1,rv,q1⟩=>thn (ho pins s1 σ H1 _ I1 q1) fun u s2 ⟨x,H2,I2,rx,q2⟩=>thn (hi pins s2 σ H2 _ I2 q2) fun iv s3 ⟨y,H3,I3,ry,a,H4,ex,g,q3⟩=>?_) hs
 subst ex
 obtain rfl:u=Value.ref a:=rx
 exact Zm hu I3 g ry rv fun s4 I4=>⟨σ,H4,I4,q3⟩
end
theorem eL {P:Program} {w:World} {H:Hp} (h:Heap) (hb:sysModules<h.objs.size):B6 P w H (h.push {cls:=.type "dict",data:=.dict #[]}) h.objs.size (.dK []):=
 ⟨Nat.zero_le _,beq_eq_false_iff_ne.mpr (Ne.symm (Nat.ne_of_lt hb)),[],.nil,Heap.DictOf.new h⟩
def iY:TE:=fun _ H Q=>∀ p,H p=none->Q (.ref p) (upd H p (.dK []))
section
variable {X:Cx} {pos:Pos}
theorem Gk:PE X (.Dict [] [] pos) iY:=fun pins s σ H Q I h=>
 wpAny_Dict_empty ⟨.ref s.heap.objs.size,_,I.laid (a:=s.heap.objs.size) (o:=.dK []) (t':=s.toks) (fun _ _ q=>Heap.get?_push_of_some _ q) (Nat.le_refl _) (eL s.heap I.big),rfl,h _ (I.hok.fresh (Nat.le_refl _))⟩
end
structure M1 (X:Cx) (o:Expr) (m:Str) (apos:Pos) (e:Expr) (cpos:Pos):Prop where
 base:attributeBase o m X.env (eval o X.env)=eval o X.env
 few:((backTo cpos (starEach [e] X.env)).all (fun x=>!x.1)&&(backToKw cpos (keywordEach [] X.env)).all (fun x=>x.1.isSome)
 &&decide (([e]:List Expr).length+([]:List Keyword).length+(if ([]:List Keyword).isEmpty then 0 else 1)<30))=true
 line:(apos.endLine==cpos.line)=true
 trees:backTo cpos (starEach [e] X.env)=[(false,eval e X.env)]
structure M2 (X:Cx) (o:Expr) (m:Str) (apos:Pos) (e f:Expr) (cpos:Pos):Prop where
 base:attributeBase o m X.env (eval o X.env)=eval o X.env
 few:((backTo cpos (starEach [e,f] X.env)).all (fun x=>!x.1)&&(backToKw cpos (keywordEach [] X.env)).all (fun x=>x.1.isSome)
 &&decide (([e,f]:List Expr).length+([]:List Keyword).length+(if ([]:List Keyword).isEmpty then 0 else 1)<30))=true
 line:(apos.endLine==cpos.line)=true
 trees:backTo cpos (starEach [e,f] X.env)=[(false,eval e X.env),(false,eval f X.env)]
def IsD (H:Hp) (a:Addr):Prop:=(∃ kvs,Rd H a (.dK kvs))∨∃ kvs,Rd H a (.dT kvs)
theorem Wd {X:Cx} {pins:List (Addr×Obj)} {σ:St} {H:Hp} {s:Shared} {a:Addr} (I:Inv X pins σ H s) (d:IsD H a) :
  s.TypeIs (.ref a) "dict"∧(∀ b,Value.ref a=.ref b->∃ ob,s.heap.get? b=some ob∧ob.dict=none)∧(a==sysModules)=false:=by
 rcases d with ⟨kvs,e⟩ | ⟨kvs,e⟩
 ·obtain ⟨_,hd,vs,_,dd⟩:=Ip I.hok e
  refine ⟨dd.typeIs,fun b q=>?_,hd⟩
  cases q
  obtain ⟨ob,_,_,h1,h2,_⟩:=dd
  exact ⟨ob,h1,h2.2.1⟩
 ·obtain ⟨_,hd,xs,_,dd⟩:=O2 I.hok e
  refine ⟨dd.typeIs,fun b q=>?_,hd⟩
  cases q
  obtain ⟨ob,_,_,h1,h2,_⟩:=dd
  exact ⟨ob,h1,h2.2.1⟩
section
variable {X:Cx} {pins:List (Addr×Obj)} {σ:St} {H:Hp} {s:Shared} {a:Addr} {y d:V} {u r:Value} {o:Option V} {A:Around} {E:Value->Shared->Prop}
theorem kK {Q:Value->Shared->Prop} (hu:A.units+1<cLine) (I:Inv X pins σ H s) (g:DGet H a y o) (ry:RelV y u) (h:∀ w' s',Inv X pins σ H s'->RelV (o.getD .non) w'->Q w' s') :
  wpAny (model X.prog X.w) A (call (.builtin "dict.get") [.ref a,u]) Q E s:=by
 rcases g with ⟨kvs,k,e,ey,l⟩ | ⟨kvs,k,b,e,ey,eb,l⟩
 ·subst ey
  obtain ⟨z,hd,vs,rel,dd⟩:=Ip I.hok e
  refine call_meetsIn PySem.F.slot_dict_get dd.typeIs PySem.F.entry_dict_get (PySem.F.args_dict_get_2 _ _) (meets_dict_get (A6 X.prog X.w) a (Om ry) hd) ⟨_,dd.mapOf,h _ _ (I.tok _) ?_⟩
  rw [l]
  exact (rel.val k).getD rfl
 ·subst ey
  cases (show u=Value.ref b from ry)
  obtain ⟨z,hd,xs,rel,dd⟩:=O2 I.hok e
  refine call_meetsIn PySem.F.slot_dict_get dd.typeIs PySem.F.entry_dict_get (PySem.F.args_dict_get_2 _ _) (meetsH_dict_get (tupleKind (A6 X.prog X.w)) a b hd) ⟨tupleKind_room_in1 hu,k,xs,Kw I.hok eb,dd,h _ _ (I.tok _) ?_⟩
  rw [l]
  exact (rel.val k).getD rfl
theorem kJ {Q:Value->Shared->Prop} (hu:A.units+1<cLine) (I:Inv X pins σ H s) (g:DGet H a y o) (ry:RelV y u) (rd:RelV d r) (h:∀ w' s',Inv X pins σ H s'->RelV (o.getD d) w'->Q w' s') :
  wpAny (model X.prog X.w) A (call (.builtin "dict.get") [.ref a,u,r]) Q E s:=by
 rcases g with ⟨kvs,k,e,ey,l⟩ | ⟨kvs,k,b,e,ey,eb,l⟩
 ·subst ey
  obtain ⟨z,hd,vs,rel,dd⟩:=Ip I.hok e
  refine call_meetsIn PySem.F.slot_dict_get dd.typeIs PySem.F.entry_dict_get (PySem.F.args_dict_get_3 _ _ _) (meets_dict_get_default (A6 X.prog X.w) a (Om ry) hd r) ⟨_,dd.mapOf,h _ _ (I.tok _) ?_⟩
  rw [l]
  exact (rel.val k).getD rd
 ·subst ey
  cases (show u=Value.ref b from ry)
  obtain ⟨z,hd,xs,rel,dd⟩:=O2 I.hok e
  refine call_meetsIn PySem.F.slot_dict_get dd.typeIs PySem.F.entry_dict_get (PySem.F.args_dict_get_3 _ _ _) (meetsH_dict_get_default (tupleKind (A6 X.prog X.w)) a b hd r) ⟨tupleKind_room_in1 hu,k,xs,Kw I.hok eb,dd,h _ _ (I.tok _) ?_⟩
  rw [l]
  exact (rel.val k).getD rd
end
def jA (td ty:TE):TE:=fun σ H Q=>td σ H fun x H1=>∃ a,x=.ref a∧IsD H1 a∧ty σ H1 fun y H2=>∃ o,DGet H2 a y o∧Q (o.getD .non) H2
def iZ (td ty tx:TE):TE:=fun σ H Q=>td σ H fun x H1=>∃ a,x=.ref a∧IsD H1 a∧ty σ H1 fun y H2=>tx σ H2 fun z H3=>∃ o,DGet H3 a y o∧Q (o.getD z) H3
def iX (td ty:TE):TE:=fun σ H Q=>td σ H fun x H1=>∃ a,x=.ref a∧IsD H1 a∧ty σ H1 fun y H2=>∃ kvs k v,H2 a=some (.dK kvs)∧y=kV k∧valV kvs k=some v∧Q v (upd H2 a (.dK (Dy kvs k)))
section
variable {X:Cx} {o e f:Expr} {apos cpos:Pos} {td ty tx:TE}
theorem cA (hu:X.A.units+1<cLine) (ho:PE X o td) (he:PE X e ty) (m:M1 X o "get" apos e cpos):PE X (.Call (.Attribute o "get" apos) [e] [] cpos) (jA td ty):=by
 intro pins s σ H Q I h
 refine wpAny_Call_method m.base m.few m.line PySem.F.plainAttrs_dict PySem.F.slot_dict_get PySem.F.type_dict_get (thn (ho pins s σ H _ I h) fun u s1 ⟨x,H1,I1,rx,a,ex,d,q1⟩=>?_)
 subst ex
 obtain rfl:u=Value.ref a:=rx
 obtain ⟨t1,t2,_⟩:=Wd I1 d
 refine ⟨t1,t2,?_⟩
 rw [m.trees]
 refine Calls.callWith_builtin rfl (Calls.evalArgs_plain (Calls.spliced_cons (thn (he pins s1 σ H1 _ I1 q1) fun iv s2 ⟨y,H2,I2,ry,ov,g,q2⟩=>Calls.spliced_nil ?_)))
 exact kK hu I2 g ry fun w' s3 I3 rw'=>⟨_,H2,I3,rw',q2⟩
theorem N6 (hu:X.A.units+1<cLine) (ho:PE X o td) (he:PE X e ty) (hf:PE X f tx) (m:M2 X o "get" apos e f cpos):PE X (.Call (.Attribute o "get" apos) [e,f] [] cpos) (iZ td ty tx):=by
 intro pins s σ H Q I h
 refine wpAny_Call_method m.base m.few m.line PySem.F.plainAttrs_dict PySem.F.slot_dict_get PySem.F.type_dict_get (thn (ho pins s σ H _ I h) fun u s1 ⟨x,H1,I1,rx,a,ex,d,q1⟩=>?_)
 subst ex
 obtain rfl:u=Value.ref a:=rx
 obtain ⟨t1,t2,_⟩:=Wd I1 d
 refine ⟨t1,t2,?_⟩
 rw [m.trees]
 refine Calls.callWith_builtin rfl (Calls.evalArgs_plain (Calls.spliced_cons (thn (he pins s1 σ H1 _ I1 q1) fun iv s2 ⟨y,H2,I2,ry,q2⟩=>
  Calls.spliced_cons (thn (hf pins s2 σ H2 _ I2 q2) fun fv s3 ⟨z,H3,I3,rz,ov,g,q3⟩=>Calls.spliced_nil ?_))))
 exact kJ hu I3 g ry rz fun w' s4 I4 rw'=>⟨_,H3,I4,rw',q3⟩
theorem N5 (ho:PE X o td) (he:PE X e ty) (m:M1 X o "pop" apos e cpos):PE X (.Call (.Attribute o "pop" apos) [e] [] cpos) (iX td ty):=by
 intro pins s σ H Q I h
 refine wpAny_Call_method m.base m.few m.line PySem.F.plainAttrs_dict PySem.F.slot_dict_pop PySem.F.type_dict_pop (thn (ho pins s σ H _ I h) fun u s1 ⟨x,H1,I1,rx,a,ex,d,q1⟩=>?_)
 subst ex
 obtain rfl:u=Value.ref a:=rx
 obtain ⟨t1,t2,_⟩:=Wd I1 d
 refine ⟨t1,t2,?_⟩
 rw [m.trees]
 refine Calls.callWith_builtin rfl (Calls.evalArgs_plain (Calls.spliced_cons (thn (he pins s1 σ H1 _ I1 q1) fun iv s2 ⟨y,H2,I2,ry,kvs,k,v,ea,ey,l,q2⟩=>Calls.spliced_nil ?_)))
 subst ey
 exact d_pop I2 ea ry l (.inl rfl) fun w' s3 I3 rw'=>⟨v,_,I3,rw',q2⟩
end
section
variable {X:Cx} {pins:List (Addr×Obj)} {σ:St} {H:Hp} {s:Shared} {a:Addr} {kvs:List (Key×V)} {A:Around} {E:Value->Shared->Prop}
end
section
variable {X:Cx} {pins:List (Addr×Obj)} {σ:St} {H:Hp} {s:Shared} {a:Addr} {y:V} {u:Value} {A:Around} {E:Value->Shared->Prop}
end
end L2
namespace Att
open PySem PySem.W PySem.Calls PyProof.Rows
theorem Lv {P:Params} {h:Heap}:∀ (ns:List Int) (vs:List Value),WellAll P h vs (ns.map WData.int)->IntsAre vs ns:=by
 intro ns
 induction ns with
 | nil=>
   intro vs w
   rw [List.map_nil] at w
   cases w
   exact .nil
 | cons n ns ih=>
   intro vs w
   rw [List.map_cons] at w
   cases w with
   | cons a b=>
     cases a
     exact .cons _ _ (ih _ b)
theorem Yb {l:OpenLaw} {n:Nat} (hn:l.most=some n) {P:Params} {h:Heap} {args:List WData} {vals:List Value}
  (hpre:l.row.toRowW.claim.pre args=true) (hwl:WellAll P h vals args) :
  ∃ a vs ns,vals=[Value.ref a]∧args=[WData.list (ns.map WData.int)]∧h.get? a=some {cls:=.type "list",data:=.seq vs.toArray}∧IntsAre vs ns∧ns.length≤n:=by
 have hsh:WShape.hasAll [] args [.list .int]=true:=(pre_splitW hpre).1
 have hc:l.pre.holds [] {args:=args}=true:=(pre_splitW hpre).2
 obtain ⟨d,r,rfl,h1,h2⟩:=hasAllW_cons hsh
 obtain rfl:=hasAllW_nil h2
 obtain ⟨xs,rfl,h3⟩:=hasW_list h1
 obtain ⟨ns,rfl⟩:=items_int h3
 have hlen:ns.length≤n:=by
  unfold OpenLaw.pre at hc
  have h4:(WTm.not (.lt (.lit (.int (n:Int))) (.len (.arg 0)))).holds [] {args:=[.list (ns.map .int)]}=true:=by
   have h4:=(holds_andW hc).1
   rw [hn] at h4
   exact h4
  have h5:=condW_of h4 (w_not (w_lt w_lit (w_len_list (w_arg rfl))))
  rw [List.length_map] at h5
  refine Nat.le_of_not_lt fun q=>?_
  have q':(n:Int)<((ns.length:Nat):Int):=by omega
  first
   | (rw [decide_eq_true q'] at h5; exact absurd h5 (by decide))
   | (simp at h5; omega)
 cases hwl with
 | cons w1 w2=>
   cases w2
   cases w1 with
   | list ho hall=>exact ⟨_,_,ns,rfl,rfl,ho,Lv ns _ hall,hlen⟩
theorem Yk (l:OpenLaw) (args:List WData):l.row.toRowW.claim.post args (.bool true) args=true:=
 postW_of (r:=l.row.toRowW) (X:=(true==true))
  (show WShape.has [] (.bool true) .bool=true by first | rfl | decide | simp [WShape.has,WShape.arms,WShape.armsAll])
  (show (WTm.eq .res (.lit (.bool true))).value [] {args:=args,res:=some (.bool true),after:=args}=some (.bool (true==true)) from w_eq_bool (w_res rfl) w_lit) rfl
theorem U1 {l:OpenLaw} {n:Nat} {q:Program} {loose:List Str} {XP:(Str->Option Value)->Heap->Prop} {YP:World->Heap->Prop} {d:DefRec}
  (hn:l.most=some n) (hdf:d.params.defaults=[])
  (call:∀ (w:World) (s₀ s₁:Shared) (mg mb:Str->Option Value) (fa:Addr) (o:Obj) (pm cd doc:Value) (a:Addr) (vs:List Value) (ns:List Int),
    Ground q loose [] XP w s₀ mg mb s₁.heap->YP w s₁.heap ->
    s₁.heap.get? fa=some o->o.data=.func (docDef d.name d.params d.body d.scope pm cd doc)->s₁.heap.CodeRec cd d.name->mg d.name=some (.ref fa) ->
    s₁.heap.get? a=some {cls:=.type "list",data:=.seq vs.toArray}->IntsAre vs ns->ns.length≤n->s₁.gens=#[] ->
    codeAny (model l.prog w) callerA (.call (.ref fa) ⟨[.ref a],[]⟩) (fun r s'=>r=.ok (.ret (.bool true))∧OldK s₁.heap s'.heap∧s'.os=s₁.os∧AllBare s'.gens) s₁) :
  WalkO q loose XP YP l.row.toRowW d [] (fun f vs=>PySem.call f vs):=by
 intro w s₀ s₁ mg mb G Y fa o pm cd doc dV kV ho hd hcd hD hmg hg args vals as hpre hlay hrd hwl hlo
 obtain rfl:dV=.none:=Dflts.none hD hdf
 obtain rfl:kV=.none:=Dflts.noKw hD
 obtain ⟨a,vs,ns,rfl,rfl,hobj,hints,hlen⟩:=Yb hn hpre hwl
 refine enter_call (codeAny_mono (call w s₀ s₁ mg mb fa o pm cd doc a vs ns G Y ho (fd_plain hd) hcd hmg hobj hints hlen hg) fun r s' hq=>?_)
 obtain ⟨rfl,h2,h3,h4⟩:=hq
 exact ⟨.inl ⟨.bool true,.bool true,[],rfl,fun _=>rfl,.bool true,Yk l _,fun _=>⟨List.Pairwise.nil,fun _ hm=>(nomatch hm)⟩⟩,h2,h3,h4⟩
section
variable {prog:Program} {w:World} {A:Around} {E:Value->Shared->Prop} {s:Shared} {K:Frag}
end
end Att
namespace L2
open PySem PySem.Spec PyProof.Rows
theorem Ph:∀ {vs:List Value} {ns:List Int},IntsAre vs ns->Vals (ns.map V.int) vs
 | _,_,.nil=>.nil
 | _,_,.cons n t h=>.cons ⟨t,rfl⟩ (Ph h)
def Only (H:Hp):Prop:=∀ b,H b=none∨∃ o xs,H b=some (.frz o (.lst xs))
theorem dE {P:Program} {w:World} {K:PySem.W.Frag} {mg mb:Str->Option Value} {CX:CXT} {k:Nat} {fa a:Addr} {fd:FuncData} {x:Str} {sp:Sp} {s₁:Shared} {vs:List Value} {ns:List Int}
  (KX:K.In s₁.heap) (hns:s₁.heap.Ns mainGlobals mg) (hb:s₁.heap.Ns builtinsNs mb) (hbb:∀ x:Str,x≠"__name__"->mb x=bootBuiltins x) (hlim:s₁.heap.NoLimit) (hg:s₁.gens=#[])
  (ha:s₁.heap.get? a=some {cls:=.type "list",data:=.seq vs.toArray}) (hi:IntsAre vs ns) (hl:ns.length≤sizeLine) (hr:Room k callerA)
  (F:∀ base:Heap,K.In base->base.Ns mainGlobals mg->FnOk P w K mg base CX k fa fd [x] sp) (hbind:∀ (s:Shared) (u:Value),BindsTo s fd ⟨[u],[]⟩ [(x,u)])
  (hsp:∀ H:Hp,Only H->SqL K H a (ns.map V.int)->sp [.ref a] H (fun v _=>v=.bl true) fun _ _ _=>False)
  (hCX:∀ H e s',CX [] H s₁ (fun _ _ _=>False) e s'->False) :
  codeAny (model P w) callerA (.call (.ref fa) ⟨[.ref a],[]⟩) (fun r s'=>r=.ok (.ret (.bool true))∧OldK s₁.heap s'.heap∧s'.os=s₁.os∧AllBare s'.gens) s₁:=by
 have rv:=Ph hi
 have lenV:=hi.length
 have core:∀ H:Hp,Only H->SqL K H a (ns.map V.int)->HOk P w H s₁.heap->(∀ b,H b≠none->b=a)->(H a≠none->K.lookup a=none) ->
   codeAny (model P w) callerA (.call (.ref fa) ⟨[.ref a],[]⟩) (fun r s'=>r=.ok (.ret (.bool true))∧OldK s₁.heap s'.heap∧s'.os=s₁.os∧AllBare s'.gens) s₁:=by
  intro H hO hS hok hA hK
  have base_of:∀ {b:Addr} {o:Obj},s₁.heap.get? b=some o->H b=none->(hidT s₁.heap H).get? b=some o:=fun e n=>dL e n
  have noA:∀ {b:Addr} {o:Obj} {es:Array DictEntry} {ep:Nat},s₁.heap.get? b=some o->o.data=.dict es ep->H b=none:=fun {b o es ep} e d=>by
   cases q:H b with
   | none=>rfl
   | some u=>
     have e':b=a:=hA b (by rw [q]; simp)
     subst e'
     rw [ha] at e; cases e
     have d':Data.seq vs.toArray _=Data.dict es ep:=d
     cases d'
  have nsK:∀ {b:Addr} {m:Str->Option Value},s₁.heap.Ns b m->(hidT s₁.heap H).Ns b m:=fun {b m} ⟨o,es,ep,e,d,r⟩=>⟨o,es,ep,base_of e (noA e d),d,r⟩
  have hKb:K.In (hidT s₁.heap H):=fun b o e=>base_of (KX b o e) (by
   cases q:H b with
   | none=>rfl
   | some u=>
     have e':b=a:=hA b (by rw [q]; simp)
     subst e'
     rw [hK (by rw [q]; simp)] at e; cases e)
  have hM:Mod K mg (hidT s₁.heap H):=⟨hKb,nsK hns,⟨mb,nsK hb,hbb⟩,let ⟨mc,h1,h2⟩:=hlim; ⟨mc,nsK h1,h2⟩⟩
  have e0:Env0 P w K mg (hidT s₁.heap H) callerA [] s₁ H:=⟨rfl,hM,fun b o e=>gU e,Nat.le_of_eq (Zb _ _),trivial,fun b hb=>absurd (show b∈([]:List Addr) from hb) (by simp),hok,.of_eq hg⟩
  refine codeAny_mono ((F _ hKb (nsK hns)).run callerA [] s₁ H ⟨[.ref a],[]⟩ [.ref a] [.ref a] _ _ hr e0 (hbind s₁ (.ref a)) (.cons rfl .nil) (hsp H hO hS)) fun r s' h=>?_
  cases r with
  | error e=>exact (hCX H e s' h).elim
  | ok fl=>
    cases fl with
    | next=>exact False.elim h
    | brk=>exact False.elim h
    | cont=>exact False.elim h
    | ret u=>
      obtain ⟨v,H',os,bare,un,hok',r',q⟩:=h
      have q':v=.bl true:=q
      subst q'
      obtain rfl:u=Value.bool true:=r'
      refine ⟨rfl,OldK.of_keep fun b o e=>?_,os,bare⟩
      cases q:H b with
      | none=>exact un.keep b o e q (by intro z; exact absurd (show b∈([]:List Addr) from z) (by simp)) (by simp)
      | some u=>
        rcases hO b with z | ⟨ob,xs,z⟩
        ·rw [q] at z; cases z
        ·have z2:=un.frzs b ob _ z
         obtain ⟨e1,_⟩:=hok b _ z
         obtain ⟨e2,_⟩:=hok' b _ z2
         rw [e] at e1; cases e1
         exact e2
 cases hk:K.lookup a with
 | some o=>
   have e:=KX a o hk
   rw [ha] at e
   cases e
   refine core (fun _=>none) (fun _=>.inl rfl) (.inr ⟨_,vs.toArray,_,hk,rfl,rfl,rfl,by rw [List.size_toArray,lenV]; exact hl,by simpa using rv⟩) (fun b u z=>by have z':(none:Option HO)=some u:=z; cases z') (fun b z=>absurd rfl z) fun z=>absurd rfl z
 | none=>
   refine core (fun b=>if b=a then some (.frz {cls:=.type "list",data:=.seq vs.toArray} (.lst (ns.map V.int))) else none) (fun b=>?_) (.inl (.inr ⟨{cls:=.type "list",data:=.seq vs.toArray},if_pos rfl⟩)) (fun b u z=>?_) (fun b z=>?_) fun _=>hk
   ·by_cases hb:b=a
    ·exact .inr ⟨_,_,if_pos hb⟩
    ·exact .inl (if_neg hb)
   ·by_cases hb:b=a
    ·have z':=(if_pos hb).symm.trans z
     cases z'
     subst hb
     exact ⟨ha,by rw [List.length_map]; exact hl,vs,_,rv,ha⟩
    ·have z':=(if_neg hb).symm.trans z
     cases z'
   ·by_cases hb:b=a
    ·exact hb
    ·exact absurd (if_neg hb) z
end L2
namespace L2
open PySem PySem.Spec PyProof.Rows
theorem Wu {l:PySem.W.OpenLaw} {n k:Nat} {q:Program} {loose:List Str} {XP:(Str->Option Value)->Heap->Prop} {YP:World->Heap->Prop} {d:DefRec} {K:Params->PySem.W.Frag} {CX:World->CXT} {sp:World->Sp} {x:Str}
  (hn:l.most=some n) (hn2:n≤sizeLine) (hdf:d.params.defaults=[]) (hr:Room k callerA)
  (hY:∀ (w:World) (h:Heap),YP w h->(K w.params).In h)
  (F:∀ (w:World) (mg:Str->Option Value) (fa:Addr) (h:Heap),(K w.params).In h->h.Ns mainGlobals mg->mg d.name=some (.ref fa) ->
    ∃ fd:FuncData,(∀ (s:Shared) (u:Value),BindsTo s fd ⟨[u],[]⟩ [(x,u)]) ∧
     ∀ base:Heap,(K w.params).In base->base.Ns mainGlobals mg->FnOk l.prog w (K w.params) mg base (CX w) k fa fd [x] (sp w))
  (hsp:∀ (w:World) (H:Hp) (a:Addr) (ns:List Int),ns.length≤n->Only H->SqL (K w.params) H a (ns.map V.int)->sp w [.ref a] H (fun v _=>v=.bl true) fun _ _ _=>False)
  (hCX:∀ (w:World) (H:Hp) (s:Shared) (e:Value) (s':Shared),CX w [] H s (fun _ _ _=>False) e s'->False) :
  PySem.W.WalkO q loose XP YP l.row.toRowW d [] (fun f vs=>PySem.call f vs):=by
 refine Att.U1 hn hdf fun w s₀ s₁ mg mb fa o pm cd doc a vs ns G Y ho hd hcd hmg hobj hints hlen hg=>?_
 have KX:=hY w _ Y
 obtain ⟨fd,hb,hF⟩:=F w mg fa _ KX G.T.g hmg
 exact dE KX G.T.g G.T.b G.T.builtins G.T.nolimit hg hobj hints (Nat.le_trans hlen hn2) hr hF hb (fun H hO hS=>hsp w H a ns hlen hO hS) fun H e s'=>hCX w H s₁ e s'
end L2
/- THE LAST THEOREM (shape; LID,My.* are yours):
  My.Adr: a structure of the addresses that your layer names (classes,functions); My.Txt K t: a structure (Prop) of the equations over K;
  My.txt_mk:{K} {implicit addresses ..} (e1:nsIn K mainGlobals "law"=some (some (.ref f))) (e2:K.lookup f=some ⟨oc,od,.func (fnOf "law" "law" params body scope dV kV doc pm an cdv ct),sl⟩) (e3:codeIn K cdv "law"=true) ..:∃ t,My.Txt K t
set_option maxRecDepth 100000 in
set_option maxHeartbeats 0 in
theorem PySem.Challenge.cw_LID_holds : PySem.Challenge.rw_LID.Holds := by
 w_on; o_law; k_head; (case hw=>w_witness2)
 k_fill
 refine L2.Wu (l:=PySem.Challenge.rw_LID) (n:=63) (k:=40) (x:="script") (CX:=fun w=>..) (sp:=fun _=>My.sp_law) rfl (by decide) rfl ⟨rfl,by decide,by decide⟩ (fun w h Y=>PySem.W.kIn_of Y) ?F ?S ?C
 case F=>
  intro w mg fa h KX G hmg
  have T:∃ t,My.Txt (L2.KOf KX) t:=by
   dsimp only [L2.KOf]                          -- K must stand as «<heap const> w.params» for k_is
   refine' My.txt_mk ?e1 ?e2 ?e3 ..
   (case e1=>PySem.W.k_is)                    -- in the order: a name->its address->its object->its parts
   (case e2=>PySem.W.k_is)
   ..
  obtain ⟨t,T⟩:=T
  have e0:=hmg.symm.trans (PySem.W.mg_of KX G T.law)
  cases e0                                       -- fa is the law's own address
  exact ⟨_,fun s u=>.of_eq rfl,fun base kb nb=>My.law_fn T kb nb⟩     -- if «.of_eq rfl» comes too early: refine' ⟨_,?b,fun base kb nb=>My.law_fn T kb nb⟩; exact fun s u=>.of_eq rfl
 case S=>exact fun w H a ns hl hO hS=>..
 case C=>exact ..
(the tactic k_is has no namespace: write k_is) -/
namespace L2
open PySem PySem.Spec PyProof.Rows
abbrev CX0:CXT:=fun _ _ _ _ _ _=>False
abbrev E0:XK:=fun _ _ _=>False
theorem Fx {X:Cx}:Hj CX0 X E0:=fun _ _ _ _ _ _ _ h=>h.elim
structure Fun (K:PySem.W.Frag) (x qual:Str) (st:Stmt) (f:Addr) (fd:FuncData):Prop where
 ex:∃ (oc:Value) (od:Option Addr) (kV doc pm:Value) (an:Option Addr) (cdv ct:Value) (osl:Array (Option Value)),
  fd=PySem.W.fnOf x qual (defArgs st) (defBody st) (defScope st) .none kV doc pm an cdv ct∧K.lookup f=some ⟨oc,od,.func fd,osl⟩∧PySem.W.codeIn K cdv qual=true
 kp:PySem.W.keepIn K (.ref f)=true
section
variable {P:Program} {w:World} {K:PySem.W.Frag} {mg:Str->Option Value} {base:Heap}
theorem Fun.ok {x qual:Str} {st:Stmt} {f:Addr} {fd:FuncData} {N ps:List Str} {k:Nat} {sp:Sp} (F:Fun K x qual st f fd) (S:Al N ps (defScope st)) (len:∀ vs H Q E,sp vs H Q E->vs.length=ps.length)
  (hbody:∀ (cdv:Value) (A:Around) (outer:List Env) (s:Shared) (H:Hp) (vs:List V) (Q:VK) (E:XK),Room k (A.deeper (envOfC qual (defScope st) s.heap.objs.size f cdv))->sp vs H Q E ->
    ∃ t,PSs (cxOf CX0 P w K mg base N qual (defScope st) f cdv A outer s H E).nox (defBody st) t∧t {nx:=fun _ H'=>Q .non H',rt:=Q} (C9 N vs) H):FnOk P w K mg base CX0 (k+1) f fd ps sp:=by
 obtain ⟨oc,od,kV,doc,pm,an,cdv,ct,osl,rfl,lk,hcd⟩:=F.ex
 refine Xr lk hcd S len fun A outer s H vs Q E hr hsp=>?_
 obtain ⟨t,h,q⟩:=hbody cdv A outer s H vs Q E hr hsp
 exact ⟨t,h.nox,q⟩
theorem Fun.binds {x qual:Str} {st:Stmt} {f:Addr} {fd:FuncData} {ps:List Str} (F:Fun K x qual st f fd)
  (h:∀ (kV doc pm:Value) (an:Option Addr) (cdv ct:Value) (us:List Value),us.length=ps.length->bindArgs (PySem.W.fnOf x qual (defArgs st) (defBody st) (defScope st) .none kV doc pm an cdv ct) ⟨us,[]⟩=pure (ps.zip us)):B8 K fd ps []:=by
 obtain ⟨oc,od,kV,doc,pm,an,cdv,ct,osl,rfl,lk,hcd⟩:=F.ex
 exact .all (h kV doc pm an cdv ct)
theorem dS {x qual:Str} {st:Stmt} {f:Addr} {oc:Value} {od an:Option Addr} {osl:Array (Option Value)} {kV doc pm cdv ct:Value} (l:K.lookup f=some ⟨oc,od,.func (PySem.W.fnOf x qual (defArgs st) (defBody st) (defScope st) .none kV doc pm an cdv ct),osl⟩)
  (c:PySem.W.codeIn K cdv qual=true) (k:PySem.W.keepIn K (.ref f)=true):Fun K x qual st f (PySem.W.fnOf x qual (defArgs st) (defBody st) (defScope st) .none kV doc pm an cdv ct):=⟨⟨oc,od,kV,doc,pm,an,cdv,ct,osl,rfl,l,c⟩,k⟩
end
theorem Dj {A:Around} {k:Nat} (hr:Room k A):A.units+1<cLine:=Nat.lt_of_le_of_lt (Nat.add_le_add_left (by decide:1≤64) _) hr.units
section
variable {X:Cx}
theorem pv (i:Nat) {x:Str} {pos:Pos} (hN:X.N[i]?=some x:=by rfl) (hv:Vis X.env.scope x:=by first | exact Or.inl rfl | exact Or.inr (Or.inl rfl) | exact Or.inr (Or.inr rfl)) (hd:(x==("__debug__":Str))=false:=by decide)
  (hcd:(x==("__classdict__":Str))=false:=by decide):PE X (.Name x pos) (tVar i):=jO hN hv hd hcd
end
theorem iteF {A B:Prop} (h:B):if false=true then A else B:=by
 rw [if_neg Bool.false_ne_true]
 exact h
theorem iteT {A B:Prop} (h:A):if true=true then A else B:=by
 rw [if_pos rfl]
 exact h
theorem ite2 {c A B:Prop} [Decidable c] (h1:c->A) (h2:¬ c->B):if c then A else B:=by
 by_cases h:c
 ·rw [if_pos h]
  exact h1 h
 ·rw [if_neg h]
  exact h2 h
def Same (H H':Hp):Prop:=∀ b o,H b=some o->H' b=some o
theorem Same.refl (H:Hp):Same H H:=fun _ _ h=>h
theorem Same.trans {H H1 H2:Hp} (a:Same H H1) (b:Same H1 H2):Same H H2:=fun c o h=>b c o (a c o h)
theorem Same.free {H H':Hp} (e:Same H H') {l:Addr} (h:H' l=Option.none):H l=Option.none:=by
 cases q:H l with
 | none=>rfl
 | some o=>
   rw [e l o q] at h
   cases h
theorem Same.seq {K:PySem.W.Frag} {H H':Hp} {a:Addr} {xs:List V} (e:Same H H') (h:SqL K H a xs):SqL K H' a xs:=by
 rcases h with (h | ⟨o,h⟩) | h
 ·exact .inl (.inl (e _ _ h))
 ·exact .inl (.inr ⟨o,e _ _ h⟩)
 ·exact .inr h
end L2
namespace L2
open PySem PySem.Spec PyProof.Rows
section
variable {X:Cx}
theorem Zz:D4 X (.builtin "len") (fun xs H Q=>∃ a kvs,xs=[V.ref a]∧H a=some (.dK kvs)∧Q (.int kvs.length) H):=by
 intro pins s σ H xs us Q I r h
 obtain ⟨a,kvs,rfl,ha,q⟩:=h
 obtain ⟨u,rfl,ru⟩:=D3 r
 cases ru
 exact d_len I (.inl ha) fun t s' I'=>⟨.int kvs.length,H,I',⟨t,rfl⟩,q⟩
end
section
variable {κ:Type} [DecidableEq κ]
theorem Zk {p:κ×V} {r:List (κ×V)} {k:κ} (e:¬ p.1=k):Dy (p::r) k=p::Dy r k:=by
 unfold Dy
 rw [List.filter_cons,if_pos (by simp [e])]
end
end L2

namespace L2
open PySem PySem.Spec PyProof.Rows
def Wm (sc os:Scope) (N' N:List Str) (cap:List (Option Nat)):Bool:=
 (sc.kind==.function)&&sc.names.all (fun y=>y.2 != .cell)&&sc.names.all (fun y=>y.2 != .local||sc.names.lookup y.1==some .local) &&
 sc.names.all (fun y=>y.2 != .free||os.names.lookup y.1==some .cell)&&(N'.length==cap.length) &&
 (List.range cap.length).all fun i=>match cap[i]? with
   | some (some j)=>(match N'[i]?,N[j]? with
     | some x,some y=>x==y&&os.names.lookup x==some .cell&&sc.names.lookup x==some .free
     | _,_=>false)
   | _=>true
def capS (cap:List (Option Nat)) (σ:St):St:=cap.map fun o=>match o with
 | some j=>(σ[j]?).getD none
 | none=>none
def C8 (X:Cx) (sc:Scope) (cl:List (Str×Addr)) (C:Addr) (N':List Str) (s:Shared) (H:Hp) (fp:List Addr):Cx:=
 {X with N:=N',s₀:=s,H₀:=H,env:=compEnvC sc cl C X.env,outer:=X.stack,ex:=fp,fn:=fun _=>false,pn:=[],xe:=fun _ _=>False}
theorem Fd {sc:Scope} {env:Env} {x:Str}:∀ {names:List (Str×NameKind)} {k:NameKind},
  (names.map fun (n,k)=>if (k==NameKind.free&&env.scope.kind==.function&&env.kindOf n==some .cell) then (n,NameKind.cell) else (n,k)).lookup x=some k ->
  names.lookup x=some k∨(names.lookup x=some .free∧k=.cell)
 | [],k,h=>by simp at h
 | (n,k0)::r,k,h=>by
  have ih:=@Fd sc env x r k
  rw [List.map_cons] at h
  cases hx:x==n with
  | true=>
    simp only [List.lookup_cons,hx]
    by_cases hc:(k0==NameKind.free&&env.scope.kind==.function&&env.kindOf n==some .cell)=true
    ·simp only [hc,if_true,List.lookup_cons,hx] at h
     cases h
     have h0:(k0==NameKind.free)=true:=by
      revert hc
      cases (k0==NameKind.free) <;> simp
     exact .inr ⟨by rw [eq_of_beq h0],rfl⟩
    ·simp only [hc,Bool.false_eq_true,if_false,List.lookup_cons,hx] at h
     exact .inl h
  | false=>
    simp only [List.lookup_cons,hx]
    refine ih ?_
    by_cases hc:(k0==NameKind.free&&env.scope.kind==.function&&env.kindOf n==some .cell)=true
    ·simp only [hc,if_true,List.lookup_cons,hx] at h; exact h
    ·simp only [hc,Bool.false_eq_true,if_false,List.lookup_cons,hx] at h; exact h
theorem Jf {env:Env}:∀ (names:List (Str×NameKind)) (acc:List (Str×Addr)),(∀ y∈names,y.2=.free->∃ c,env.cells.lookup y.1=some c) ->
  (∀ x c,acc.lookup x=some c->env.cells.lookup x=some c) ->
  ∃ cl:List (Str×Addr),(forIn (m:=Sem) names acc fun y r=>(if (y.2==NameKind.free)=true then (cellOf env y.1>>=fun a=>pure (ForInStep.yield ((y.1,a)::r))) else pure (ForInStep.yield r)))=pure cl ∧
   (∀ x c,cl.lookup x=some c->env.cells.lookup x=some c)∧(∀ x,(∃ c,acc.lookup x=some c)->∃ c,cl.lookup x=some c)∧∀ y∈names,y.2=.free->∃ c,cl.lookup y.1=some c
 | [],acc,_,ha=>⟨acc,rfl,ha,fun _ h=>h,fun y hy=>by simp at hy⟩
 | (n,k)::r,acc,hf,ha=>by
  rw [List.forIn_cons]
  by_cases hk:(k==NameKind.free)=true
  ·have hk':k=.free:=eq_of_beq hk
   obtain ⟨c,hc⟩:=hf (n,k) List.mem_cons_self hk'
   have hc:env.cells.lookup n=some c:=hc
   obtain ⟨cl,e,h1,h2,h3⟩:=Jf r ((n,c)::acc) (fun y hy=>hf y (List.mem_cons_of_mem _ hy)) (fun x d hd=>by
    rw [List.lookup_cons] at hd
    cases hx:x==n with
    | true=>rw [hx] at hd; rw [eq_of_beq hx]; exact hc.trans hd
    | false=>rw [hx] at hd; exact ha x d hd)
   refine ⟨cl,?_,h1,fun x ⟨d,hd⟩=>h2 x ?_,fun y hy hyk=>?_⟩
   ·have e1:cellOf env n=pure c:=by unfold cellOf; rw [hc]
    dsimp only
    rw [if_pos hk,e1]
    exact e
   ·cases hx:x==n with
    | true=>exact ⟨c,by rw [List.lookup_cons,hx]⟩
    | false=>exact ⟨d,by rw [List.lookup_cons,hx]; exact hd⟩
   ·rcases List.mem_cons.mp hy with rfl | hy
    ·exact h2 n ⟨c,by rw [List.lookup_cons,beq_self_eq_true]⟩
    ·exact h3 y hy hyk
  ·obtain ⟨cl,e,h1,h2,h3⟩:=Jf r acc (fun y hy=>hf y (List.mem_cons_of_mem _ hy)) ha
   refine ⟨cl,?_,h1,h2,fun y hy hyk=>?_⟩
   ·dsimp only
    rw [if_neg hk]
    exact e
   ·rcases List.mem_cons.mp hy with rfl | hy
    ·exact absurd (by rw [show k=.free from hyk]; rfl) hk
    ·exact h3 y hy hyk
theorem Pg {sc:Scope} {env:Env} (hf:∀ y∈sc.names,y.2=.free->∃ c,env.cells.lookup y.1=some c) :
  ∃ cl:List (Str×Addr),closureFor sc env=pure cl∧(∀ x c,cl.lookup x=some c->env.cells.lookup x=some c)∧∀ y∈sc.names,y.2=.free->∃ c,cl.lookup y.1=some c:=by
 obtain ⟨cl,e,h1,_,h3⟩:=Jf sc.names [] hf (fun x c h=>by simp at h)
 refine ⟨cl,?_,h1,h3⟩
 unfold closureFor
 show (forIn sc.names [] _>>=fun cs=>pure cs)=pure cl
 have e':(forIn (m:=Sem) sc.names ([]:List (Str×Addr)) fun x r=>match x with | (name,kind)=>if (kind==NameKind.free)=true then (cellOf env name>>=fun a=>pure (ForInStep.yield ((name,a)::r))) else pure (ForInStep.yield r))=pure cl:=e
 first
  | (rw [e']; rfl)
  | (simp only [e']; rfl)
  | exact e'
structure E5 (X:Cx) (sc:Scope) (N':List Str) (cap:List (Option Nat)):Prop where
 kind:sc.kind=.function
 nocell:∀ y∈sc.names,y.2≠.cell
 names:∀ y∈sc.names,y.2=.local->sc.names.lookup y.1=some .local
 free:∀ y∈sc.names,y.2=.free->X.env.scope.names.lookup y.1=some .cell
 len:N'.length=cap.length
 caps:∀ (i j:Nat),cap[i]?=some (some j)->∃ x,N'[i]?=some x∧X.N[j]?=some x∧X.env.scope.names.lookup x=some .cell∧sc.names.lookup x=some .free
theorem Zr {X:Cx} {sc:Scope} {N':List Str} {cap:List (Option Nat)} (h:Wm sc X.env.scope N' X.N cap=true):E5 X sc N' cap:=by
 unfold Wm at h
 simp only [Bool.and_eq_true,List.all_eq_true,bne_iff_ne,beq_iff_eq,Bool.or_eq_true,ne_eq,List.mem_range] at h
 obtain ⟨⟨⟨⟨⟨h1,h2⟩,h3⟩,h4⟩,h5⟩,h6⟩:=h
 refine ⟨h1,h2,fun y hy hk=>(h3 y hy).resolve_left (fun q=>q hk),fun y hy hk=>(h4 y hy).resolve_left (fun q=>q hk),h5,fun i j e=>?_⟩
 have hi:i<cap.length:=(List.getElem?_eq_some_iff.mp e).1
 have q:=h6 i hi
 rw [e] at q
 cases e1:N'[i]? with
 | none=>simp [e1] at q
 | some x=>
   cases e2:X.N[j]? with
   | none=>simp [e1,e2] at q
   | some y=>
     simp only [e1,e2,Bool.and_eq_true,beq_iff_eq] at q
     exact ⟨x,rfl,by rw [q.1.1],q.1.2,q.2⟩
def PTs (X:Cx) (ifs:List Expr) (t:TT):Prop:=
 ∀ (pins:List (Addr×Obj)) (s:Shared) (σ:St) (H:Hp) (Q:Bool->Hp->Prop),Inv X pins σ H s->t σ H Q ->
  wpAny (model X.prog X.w) X.A (forIn ifs true fun c r=>if r=true then do let ok ← isTrue c X.env (eval c X.env); pure (ForInStep.yield ok) else pure (ForInStep.yield r)) (TP X pins σ Q) X.xe s
def tYes:TT:=fun _ H Q=>Q true H
theorem Fe {X:Cx}:PTs X [] tYes:=fun _ _ _ H _ I h=>wpAny_tests_nil ⟨H,I,h⟩
theorem Xg {X:Cx} {c:Expr} {t:TT} (h:PT X c t):PTs X [c] t:=fun pins s σ H Q I q=>wpAny_tests_one (h pins s σ H Q I q)
def LcG (cap:List (Option Nat)) (g:TG) (tc:TT) (te:TE) (σ:St) (Q:VK):It->Hp->Prop:=fun J H1=>
 ∃ W:Nat->Nat->List V->St->Hp->Prop,(∃ m,W 0 m [] (capS cap σ) H1)∧∀ i m ys σ' H',W i m ys σ' H'->ys.length≤sizeLine ∧
  ((J.stop i H'∧∀ p,H' p=none->Q (.ref p) (upd H' p (.lst ys))) ∨
   (J.go i H'∧∀ x H2,J.yld i H' x H2->g x σ' H2 fun σ3 H3=>tc σ3 H3 fun b H4=>
     if b=true then te σ3 H4 fun y H5=>ys.length<sizeLine∧∃ m',m'<m∧W (i+1) m' (ys++[y]) σ3 H5 else ∃ m',m'<m∧W (i+1) m' ys σ3 H4))
def tLc (cap:List (Option Nat)) (wi:TI) (g:TG) (tc:TT) (te:TE):TE:=fun σ H Q=>wi σ H (LcG cap g tc te σ Q)
section
variable {X:Cx} {sc:Scope} {N':List Str} {cap:List (Option Nat)} {pins:List (Addr×Obj)} {σ:St} {H:Hp} {s:Shared} {fp:List Addr} {cl:List (Str×Addr)} {C:Addr}
theorem Zs (I:Inv X pins σ H s) (F:E5 X sc N' cap) (hcl:∀ x c,cl.lookup x=some c->X.env.cells.lookup x=some c)
  (hcl2:∀ y∈sc.names,y.2=.free->∃ c,cl.lookup y.1=some c) (hf:∀ b∈fp,FpOk X pins H b) (hC:s.heap.objs.size≤C) (hfs:∀ b∈fp,b<s.heap.objs.size):(C8 X sc cl C N' s H fp).Ok where
 mod:=I.ok.mod
 kind:=F.kind
 glob:=I.ok.glob
 blt:=I.ok.blt
 above:=hC
 inj:=fun x y c h1 h2=>I.ok.inj x y c (hcl x c h1) (hcl y c h2)
 has:=fun x hx=>by
  have key:∀ k,(compEnvC sc cl C X.env).kindOf x=some k->(k=.cell∨k=.free)->∃ c,cl.lookup x=some c:=fun k hk hkk=>by
   rcases Fd (sc:=sc) (env:=X.env) (names:=sc.names) hk with q | ⟨q,_⟩
   ·have m:=PySem.mem_of_lookup q
    rcases hkk with e | e
    ·exact absurd e (F.nocell _ m)
    ·exact hcl2 _ m e
   ·exact hcl2 _ (PySem.mem_of_lookup q) rfl
  rcases hx with hx | hx
  ·exact key _ hx (.inl rfl)
  ·exact key _ hx (.inr rfl)
 cab:=fun x c h=>by cases h
 hd:=I.ok.hd
 frames:=I.ok.frames
 stk:=.inl rfl
 exf:=fun b hb=>⟨Nat.ne_of_lt (Nat.lt_of_lt_of_le (hfs b hb) hC),fun x c e=>(hf b hb).2.2.2.2.1 x c (hcl x c e)⟩
 bs:=I.bs
 bsz:=Nat.le_trans I.ok.bsz I.sz
 noex:=fun b o e hb=>by
  rcases (hf b hb).2.2.2.1 with z | z
  ·exact I.ok.noex b o e z
  ·exact absurd (Nat.lt_of_lt_of_le (Nat.lt_of_lt_of_le (Heap.lt_size e) I.ok.bsz) z) (Nat.lt_irrefl _)
 exfs:=fun b hb z=>by
  rcases List.mem_cons.mp (I.stkSub b z) with q | q
  ·exact (hf b hb).2.1 q
  ·exact (hf b hb).2.2.1 q
 funs:=I.stack
 frf:=I.stkFree
theorem Wn {h₁:Heap} {tk:Nat} {m:Str->Option Value} (I:Inv X pins σ H s) (F:E5 X sc N' cap) (hcl:∀ x c,cl.lookup x=some c->X.env.cells.lookup x=some c)
  (hcl2:∀ y∈sc.names,y.2=.free->∃ c,cl.lookup y.1=some c) (hf:∀ b∈fp,FpOk X pins H b) (hC:s.heap.objs.size≤C) (hfs:∀ b∈fp,b<s.heap.objs.size)
  (old:∀ b o,s.heap.get? b=some o->h₁.get? b=some o) (hns:h₁.Ns C m):Inv (C8 X sc cl C N' s H fp) [] (capS cap σ) H {s with heap:=h₁,toks:=tk}:=by
 have free:H C=none:=I.hok.fresh hC
 refine ⟨Zs I F hcl hcl2 hf hC hfs,rfl,I.bare,Un.kept old,⟨m,hns,fun i x v e1 e2 e3=>?_⟩,fun x c e=>?_,free,fun x c e=>I.freeC x c (hcl x c e),fun p hp=>by simp [C8] at hp,I.hok.kept old,by simp [capS,C8,F.len]⟩
 ·unfold capS at e2
  rw [List.getElem?_map] at e2
  cases ec:cap[i]? with
  | none=>rw [ec] at e2; simp at e2
  | some oj=>
    rw [ec] at e2
    cases oj with
    | none=>simp at e2
    | some j=>
      obtain ⟨x',g1,g2,g3,g4⟩:=F.caps i j ec
      have ex:x'=x:=Option.some.inj (g1.symm.trans (show N'[i]?=some x from e1))
      subst ex
      have e2':(σ[j]?).getD none=some v:=Option.some.inj e2
      have e2'':σ[j]?=some (some v):=by
       cases q:σ[j]? with
       | none=>rw [q] at e2'; cases e2'
       | some z=>rw [q] at e2'; exact congrArg some e2'
      obtain ⟨m0,_,hl⟩:=I.loc
      obtain ⟨u,r,l⟩:=hl j x' v g2 e2'' (.inr (.inl g3))
      refine ⟨u,r,?_⟩
      rcases l with ⟨k,_⟩ | ⟨k,c,e,z⟩
      ·have k':X.env.scope.names.lookup x'=some .local:=k
       rw [g3] at k'; cases k'
      ·have hv:(compEnvC sc cl C X.env).kindOf x'=some .local∨(compEnvC sc cl C X.env).kindOf x'=some .cell∨(compEnvC sc cl C X.env).kindOf x'=some .free:=e3
       have onef:sc.names.lookup x'=some .free->Look (compEnvC sc cl C X.env) h₁ m x' u:=fun q=>by
        obtain ⟨c',hc'⟩:=hcl2 _ (PySem.mem_of_lookup q) rfl
        have hc':cl.lookup x'=some c':=hc'
        have:c'=c:=Option.some.inj ((hcl x' c' hc').symm.trans e)
        subst this
        refine .inr ⟨?_,c',hc',z.keeps old⟩
        rcases hv with k1 | k1 | k1
        ·exfalso
         rcases Fd (sc:=sc) (env:=X.env) (names:=sc.names) k1 with q1 | ⟨_,q2⟩
         ·rw [q] at q1; cases q1
         ·cases q2
        ·exact .inl k1
        ·exact .inr k1
       exact onef g4
 ·obtain ⟨v,z⟩:=I.cell x c (hcl x c e)
  exact ⟨v,z.keeps old⟩
theorem Uv {prog:Program} {w:World} {A:Around} {R:Result->Shared->Prop} {elt tg iter:Expr} {ifs:List Expr} {scope:Scope} {pos:Pos} {it acc:Value} {env:Env} {s:Shared} (J:Nat->Shared->Prop)
  (turn:∀ n s,J n s->wpAny (model prog w) A (pyNext it) (fun r s₁=>(r=none∧R (.ok .next) s₁)∨∃ v,r=some v∧wpAny (model prog w) A (letOwnedTupleGo tg it v) (fun _ s1=>
     wpAny (model prog w) A (assign tg env v) (fun _ s₂=>
      wpAny (model prog w) A (forIn ifs true fun c r=>if r=true then do let ok ← isTrue c env (eval c env); pure (ForInStep.yield ok) else pure (ForInStep.yield r)) (fun ok s₃=>
       if ok=true then wpAny (model prog w) A (eval elt env) (fun x s₄=>
        wpAny (model prog w) A (call (.builtin "list.append") [acc,x]) (fun _ s₅=>∃ m,m<n∧J m s₅) (fun _ _=>False) s₄) (fun _ _=>False) s₃
       else ∃ m,m<n∧J m s₃) (fun _ _=>False) s₂) (fun _ _=>False) s1) (fun _ _=>False) s₁) (fun _ _=>False) s)
  (n:Nat) (h:J n s):codeAny (model prog w) A (.compLoop (.ListComp elt [⟨tg,iter,ifs,0⟩] scope pos) 0 it acc env) R s:=by
 refine codeAny_loop rfl J (fun n s hJ=>?_) n h
 show wpAny _ A ((compTurn (.ListComp elt [⟨tg,iter,ifs,0⟩] scope pos) 0 it acc env).onRaise (fun x=>do noteFrame x env; theTreesLotGoes x)) _ _ s
 refine wpAny_noted ?_
 rw [compTurn_list]
 refine wpAny_bind (wpAny_standAt (wpAny_bind (wpAny_mono (turn n s hJ) (fun r s₁ h₁=>?_) fun _ _ f=>f.elim)))
 rcases h₁ with ⟨rfl,h₁⟩ | ⟨v,rfl,h₁⟩
 ·exact wpAny_pure h₁
 ·refine wpAny_bind (wpAny_mono h₁ (fun _ s1 h1=>?_) fun _ _ f=>f.elim)
  refine wpAny_bind (wpAny_mono h1 (fun _ s₂ h₂=>wpAny_bind (wpAny_mono h₂ (fun ok s₃ h₃=>?_) fun _ _ f=>f.elim)) fun _ _ f=>f.elim)
  cases ok with
  | false=>exact wpAny_pure ⟨rfl,h₃⟩
  | true=>
    exact wpAny_bind (wpAny_bind (wpAny_mono h₃ (fun x s₄ h₄=>wpAny_bind (wpAny_mono h₄ (fun _ s₅ h₅=>wpAny_pure (wpAny_pure ⟨rfl,h₅⟩)) fun _ _ f=>f.elim)) fun _ _ f=>f.elim))
theorem Wl {elt tg iter:Expr} {ifs:List Expr} {pos:Pos} {g:TG} {tc:TT} {te:TE} {Qv:VK} {it:Addr} {tn:Nat->Heap->Prop} {J:It} {E:Value->Shared->Prop} {RR:Value->Addr->Result->Shared->Prop}
  {W:Nat->Nat->List V->St->Hp->Prop} {m0:Nat} (hc:X.calm=true) (I:Inv X pins σ H s) (F:E5 X sc N' cap) (hcl:∀ x c,cl.lookup x=some c->X.env.cells.lookup x=some c)
  (hcl2:∀ y∈sc.names,y.2=.free->∃ c,cl.lookup y.1=some c)
  (hg:∀ cl C s H fp,PG (C8 X sc cl C N' s H fp) tg g) (ht:∀ cl C s H fp,PTs (C8 X sc cl C N' s H fp) ifs tc) (he:∀ cl C s H fp,PE (C8 X sc cl C N' s H fp) elt te)
  (T:Turn X.prog X.w X.K tg J fp it tn) (st:tn 0 s.heap) (hf:∀ b∈fp,FpOk X pins H b) (w0:W 0 m0 [] (capS cap σ) H)
  (turn:∀ i m ys σ' H',W i m ys σ' H'->ys.length≤sizeLine∧((J.stop i H'∧∀ p,H' p=none->Qv (.ref p) (upd H' p (.lst ys))) ∨
   (J.go i H'∧∀ x H2,J.yld i H' x H2->g x σ' H2 fun σ3 H3=>tc σ3 H3 fun b H4=>
     if b=true then te σ3 H4 fun y H5=>ys.length<sizeLine∧∃ m',m'<m∧W (i+1) m' (ys++[y]) σ3 H5 else ∃ m',m'<m∧W (i+1) m' ys σ3 H4)))
  (fin:∀ (D C:Addr) (m:Str->Option Value) (H':Hp) (s':Shared),s.heap.objs.size≤C->s'.heap.Ns C m->Inv X pins σ H' s'->FpOk X pins H' C->Qv (.ref D) H'->RR (.ref D) C (.ok .next) s') :
  wpAny (model X.prog X.w) X.A (newList []) (fun acc s₃=>wpAny (model X.prog X.w) X.A (newFunctionEnv sc X.env.globals cl [] X.env.qual none .none (some X.env)) (fun cenv s₄=>
   codeAny (model X.prog X.w) X.A (.compStart (.ListComp elt [⟨tg,iter,ifs,0⟩] sc pos) 0 (.ref it) acc {cenv with scope:=relabel sc X.env}) (RR acc cenv.locals) s₄) E s₃) E s:=by
 refine wpAny_newObj_type (wpAny_newFunctionEnv F.nocell (by intro y hy; simp at hy) (fun h₁ hns₁ hsb₁=>?_) F.kind)
 dsimp only at hns₁ hsb₁ ⊢
 have hfs:∀ b∈fp,b<s.heap.objs.size:=fun b hb=>by
  obtain ⟨o,e,_⟩:=T.obj _ _ st b hb
  exact Heap.lt_size e
 have old:∀ b o,s.heap.get? b=some o->h₁.get? b=some o:=fun b o e=>by
  have hb:=Heap.lt_size e
  exact hsb₁.extBut b o (by rw [Heap.size_push]; exact Nat.ne_of_lt (Nat.lt_succ_of_lt hb)) (Heap.get?_push_of_some _ (Heap.get?_push_of_some _ e))
 generalize hCe:(s.heap.push {cls:=.type "list",dict:=none,data:=.seq ([]:List Value).toArray}).objs.size=C at *
 have hCs:C=s.heap.objs.size+1:=by rw [← hCe,Heap.size_push]
 have hC:s.heap.objs.size≤C:=by omega
 have hDC:s.heap.objs.size≠C:=by omega
 have hD₁:h₁.get? s.heap.objs.size=some {cls:=.type "list",data:=.seq ([]:List Value).toArray 0}:=
  hsb₁.extBut _ _ hDC (Heap.get?_push_of_some _ (Heap.get?_push_size _ rfl))
 have freeD:H s.heap.objs.size=none:=I.hok.fresh (Nat.le_refl _)
 let X':Cx:=C8 X sc cl C N' s H fp
 have I0:Inv X' [] (capS cap σ) H {s with heap:=h₁,toks:=s.toks+([]:List (Str×Value)).length}:=Wn I F hcl hcl2 hf hC hfs old hns₁
 have fpX:∀ {H':Hp} {pl:List (Addr×Obj)},(∀ b∈fp,H' b=none)->(∀ p∈pl,p.1=s.heap.objs.size)->∀ b∈fp,FpOk X' pl H' b:=fun {H' pl} hn hp b hb=>by
  refine ⟨hn b hb,Nat.ne_of_lt (Nat.lt_of_lt_of_le (hfs b hb) hC),I0.ok.exfs b hb,.inl hb,(I0.ok.exf b hb).2,fun p hpp=>?_⟩
  have:p.1=s.heap.objs.size:=hp p (by simpa [X',C8] using hpp)
  rw [this]
  exact Ne.symm (Nat.ne_of_lt (hfs b hb))
 have nD:s.heap.objs.size∉X'.fs:=fun z=>by
  obtain ⟨_,o,ho,_⟩:=I0.ok.funs.mem z
  exact absurd (Heap.lt_size ho) (Nat.lt_irrefl _)
 have cD:∀ x c,X'.env.cells.lookup x=some c->c≠s.heap.objs.size:=fun x c e z=>by
  obtain ⟨v,q⟩:=I.cell x c (hcl x c e)
  exact absurd q.lt (by rw [z]; exact Nat.lt_irrefl _)
 have loop:codeAny (model X.prog X.w) X.A (.compLoop (.ListComp elt [⟨tg,iter,ifs,0⟩] sc pos) 0 (.ref it) (.ref s.heap.objs.size) (compEnvC sc cl C X.env)) (RR (.ref s.heap.objs.size) C) {s with heap:=h₁,toks:=s.toks+([]:List (Str×Value)).length}:=by
  refine Uv (fun n s'=>∃ i ys σ' H' its k,Inv X' [(s.heap.objs.size,{cls:=.type "list",data:=.seq (List.toArray its) k})] σ' H' s'∧tn i s'.heap∧(∀ b∈fp,H' b=none)∧Vals ys its∧W i n ys σ' H') ?_ m0
   ⟨0,[],capS cap σ,H,[],0,I0.pins_of fun p hp=>?_,T.keep _ _ _ st fun b _ o e=>old b o e,fun b hb=>(hf b hb).1,.nil,w0⟩
  ·rintro n s3 ⟨i,ys,σ3,H3,its,k,I3,st3,fr3,rv,w3⟩
   obtain ⟨hlen,way⟩:=turn i n ys σ3 H3 w3
   have f3:=fpX (pl:=[(s.heap.objs.size,{cls:=.type "list",data:=.seq (List.toArray its) k})]) fr3 (fun p hp=>by rw [List.mem_singleton.mp hp])
   rcases way with ⟨stop,qn⟩ | ⟨go,step⟩
   ·refine thn (T.done X' rfl rfl rfl hc i _ s3 σ3 H3 _ I3 f3 st3 stop) fun r s4 ⟨hr,I4⟩=>.inl ⟨hr,?_⟩
    obtain ⟨eD,nD3,neD,nfD,_⟩:=I4.pin (s.heap.objs.size,{cls:=.type "list",data:=.seq (List.toArray its) k}) (by simp [X',C8])
    obtain ⟨m4,hn4,_⟩:=id I4.loc
    have u4:Un (frs X.stack) fp H H3 s.heap s4.heap:=I4.base
    have lts:∀ b o,s.heap.get? b=some o->b≠s.heap.objs.size:=fun b o e=>Nat.ne_of_lt (Heap.lt_size e)
    have hokF:HOk X.prog X.w (upd H3 s.heap.objs.size (.lst ys)) s4.heap:=fun b o e=>by
     by_cases hb:b=s.heap.objs.size
     ·subst hb
      rw [Ag] at e; cases e
      exact ⟨hlen,its,k,rv,eD⟩
     ·rw [Ae hb] at e
      exact (I4.hok b o e).stay (fun _ _ _ q=>q) (fun c q=>by rw [Ae (Aj q nD3)]; exact q) fun c xs q=>by rw [Ae (Aj q nD3)]; exact q
    have uF:Un (frs X.stack) fp H (upd H3 s.heap.objs.size (.lst ys)) s.heap s4.heap:=
     ⟨u4.keep,u4.slot,fun b o e n hx=>by rw [Ae (lts b o e)]; exact u4.free b o e n hx,u4.there,fun b xs e=>by rw [Ae (Aj e freeD)]; exact u4.tups b xs e,fun b o xs e=>by rw [Ae (Aj e freeD)]; exact u4.frzs b o xs e,
       fun b ps e=>by rw [Ae (Aj e freeD)]; exact u4.tbls b ps e⟩
    have IF:Inv X pins σ (upd H3 s.heap.objs.size (.lst ys)) s4:=I.call' (ch:=fp) I4.os uF hokF I4.bare fun b hb=>by
     obtain ⟨_,g1,_,g3,g4,g5⟩:=hf b hb
     exact ⟨g3,g1,g4,g5⟩
    exact fin _ C m4 _ s4 hC hn4 IF (I.fpOk hC (by rw [Ae (Ne.symm hDC)]; exact I4.free)) (qn _ nD3)
   ·refine thn (T.item X' rfl rfl rfl hc i _ s3 σ3 H3 _ I3 f3 st3 go) fun r s4 ⟨u,hr,h4⟩=>.inr ⟨u,hr,?_⟩
    refine thn h4 fun _ s5 ⟨x,H5,I5,r5,y5,st5,fr5⟩=>?_
    have I5':=I5.pinned (fpX fr5 (fun p hp=>by rw [List.mem_singleton.mp hp])) (T.obj _ _ st5)
    refine thn (hg cl C s H fp _ s5 σ3 H5 x u _ I5' r5 (step x H5 y5)) fun _ s6 ⟨σ6,H6,I6,q6⟩=>?_
    refine thn (ht cl C s H fp _ s6 σ6 H6 _ I6 q6) fun b s7 ⟨H7,I7,q7⟩=>?_
    have keepT:∀ {σ8:St} {H8:Hp} {s8:Shared},Inv X' ([(s.heap.objs.size,{cls:=.type "list",data:=.seq (List.toArray its) k})]++N4 fp s5.heap) σ8 H8 s8->tn (i+1) s8.heap∧∀ b∈fp,H8 b=none:=fun {σ8 H8 s8} I8=>by
     refine ⟨T.keep _ _ _ st5 fun b hb o e=>(I8.pin (b,o) (List.mem_append_right _ (List.mem_append_right _ (Fk hb e)))).1,fun b hb=>?_⟩
     obtain ⟨o,e,d⟩:=T.obj _ _ st5 b hb
     exact (I8.pin (b,o) (List.mem_append_right _ (List.mem_append_right _ (Fk hb e)))).2.1
    cases b with
    | false=>
      rw [if_neg Bool.false_ne_true] at q7
      rw [if_neg Bool.false_ne_true]
      obtain ⟨m',hm,w7⟩:=q7
      obtain ⟨t7,n7⟩:=keepT I7
      exact ⟨m',hm,i+1,ys,σ6,H7,its,k,I7.unpinned,t7,n7,rv,w7⟩
    | true=>
      rw [if_pos rfl] at q7
      rw [if_pos rfl]
      refine thn (he cl C s H fp _ s7 σ6 H7 _ I7 q7) fun z s8 ⟨y,H8,I8,r8,hl8,m',hm,w8⟩=>?_
      obtain ⟨t8,n8⟩:=keepT I8
      obtain ⟨eD,nD8,neD,nfD,_⟩:=I8.pin (s.heap.objs.size,{cls:=.type "list",data:=.seq (List.toArray its) k}) (by simp [X',C8])
      have hrl:=rv.length
      refine call_meets PySem.F.slot_list_append ⟨_,eD,rfl⟩ PySem.F.entry_list_append (PySem.F.args_list_append_2 _ _) (PySem.list_append _ its.toArray k z (by rw [List.size_toArray]; omega)) ⟨eD,?_⟩
      have q:=PySem.IsL.update eD (·.push z)
      have I9:Inv X' [] σ6 H8 {s8 with heap:=s8.heap.update s.heap.objs.size (Obj.mapSeq (·.push z))}:=
       (I8.pins_of (pins':=[]) (fun p hp=>by simp at hp)).turned (t':=s8.toks) (it:=s.heap.objs.size) (fun b' u hb hu=>(Heap.get?_update_other s8.heap (Obj.mapSeq (·.push z)) (Ne.symm hb)).trans hu) nD8 hDC (.inr (Nat.le_refl _)) cD (fun p hp=>by simp [X',C8] at hp)
      refine ⟨m',hm,i+1,ys++[y],σ6,H8,its++[z],(if ((its.toArray.push z).size==its.toArray.size)=true then k else k+1),I9.pins_of fun p hp=>?_,?_,n8,rv.append (.cons r8 .nil),w8⟩
      ·rw [List.mem_singleton.mp hp]
       exact ⟨by rw [show (its++[z]).toArray=its.toArray.push z by simp]; exact q,nD8,hDC,nD,fun v e=>by cases e⟩
      ·exact T.keep _ _ _ t8 fun b hb o e=>(Heap.get?_update_other s8.heap (Obj.mapSeq (·.push z)) (Nat.ne_of_lt (hfs b hb)).symm).trans e
  ·rw [List.mem_singleton.mp hp]
   exact ⟨hD₁,freeD,hDC,nD,fun v e=>by cases e⟩
 exact codeAny_compStart_list loop (T.self _ 0 _ _ _ (T.keep _ _ _ st fun b _ o e=>old b o e) loop)
theorem S0 (I:Inv X pins σ H s) (F:E5 X sc N' cap):∃ cl:List (Str×Addr),closureFor sc X.env=pure cl∧(∀ x c,cl.lookup x=some c->X.env.cells.lookup x=some c)∧∀ y∈sc.names,y.2=.free->∃ c,cl.lookup y.1=some c:=
 Pg fun y hy hk=>I.ok.has y.1 (.inl (F.free y hy hk))
theorem Jw {elt tg iter:Expr} {ifs:List Expr} {pos:Pos} {wi:TI} {g:TG} {tc:TT} {te:TE} (hc:X.calm=true) (hk:Wm sc X.env.scope N' X.N cap=true) (hi:PI X tg iter wi)
  (hg:∀ cl C s H fp,PG (C8 X sc cl C N' s H fp) tg g) (ht:∀ cl C s H fp,PTs (C8 X sc cl C N' s H fp) ifs tc) (he:∀ cl C s H fp,PE (C8 X sc cl C N' s H fp) elt te)
  (hs:∀ x,foldedSetIterable iter X.env x=pure x:=by intro _; rfl):PE X (.ListComp elt [⟨tg,iter,ifs,0⟩] sc pos) (tLc cap wi g tc te):=by
 intro pins s σ H Q I h
 have F:=Zr hk
 obtain ⟨cl,ecl,hcl,hcl2⟩:=S0 I F
 rw [eval_ListComp]
 refine wpAny_comprehension_free (use:=none) rfl hs ecl F.kind F.names (thn (hi pins s σ H _ I h) fun v s1 h1=>thn h1 fun itv s2 h2=>?_)
 obtain ⟨it,fp,tn,J,H2,e,I2,T,st2,f2,W,⟨m0,w0⟩,turn⟩:=h2
 subst e
 refine Wl hc I2 F hcl hcl2 hg ht he T st2 f2 w0 turn (RR:=fun acc C=>compPost (model X.prog X.w) X.A X.xe none (EP X pins σ Q) acc C) ?_
 intro D C m H' s' hC hn I' fC q
 refine ⟨m,hn,fun h' hs'=>⟨.ref D,H',?_,rfl,q⟩⟩
 obtain ⟨g0,g1,_,g3,g4,g5⟩:=fC
 exact I'.turned (t':=s'.toks) (fun b o hb e=>(hs'.2 b hb).trans e) g0 g1 g3 g4 g5
end
end L2

namespace L2
open PySem PySem.W PyProof.Rows
def KOk (o:Nat->Nat->Bool) (n:Nat) {α:Type}:KasT α->(α->Prop)->Prop
 | .ret a,Q=>Q a
 | .ask i j k,Q=>i<n∧j<n∧i≠j∧KOk o n (k (o i j)) Q
theorem KOk.bind {o:Nat->Nat->Bool} {n:Nat} {α β:Type} {f:α->KasT β} {Q:β->Prop}:∀ (t:KasT α),KOk o n t (fun a=>KOk o n (f a) Q)->KOk o n (t.bind f) Q
 | .ret a,h=>h
 | .ask i j k,⟨h1,h2,h0,h3⟩=>⟨h1,h2,h0,KOk.bind (k (o i j)) h3⟩
theorem KOk.mono {o:Nat->Nat->Bool} {n:Nat} {α:Type} {Q Q':α->Prop} (hq:∀ a,Q a->Q' a):∀ (t:KasT α),KOk o n t Q->KOk o n t Q'
 | .ret a,h=>hq a h
 | .ask i j k,⟨h1,h2,h0,h3⟩=>⟨h1,h2,h0,KOk.mono hq (k (o i j)) h3⟩
theorem KOk.wp {o:Nat->Nat->Bool} {n:Nat} {α:Type} {Q:α->Prop} {G:α->Shared->Prop} {cmp:Nat->Nat->(Bool->Shared->Prop)->Shared->Prop} {s:Shared}
  (hc:∀ i j,i<n->j<n->i≠j->∀ C:Bool->Shared->Prop,C (o i j) s->cmp i j C s) (hq:∀ a,Q a->G a s):∀ (t:KasT α),KOk o n t Q->t.kasWp cmp G s
 | .ret a,h=>hq a h
 | .ask i j k,⟨h1,h2,h0,h3⟩=>hc i j h1 h2 h0 _ (KOk.wp hc hq (k (o i j)) h3)
structure SOrd (o:Nat->Nat->Bool) (n:Nat):Prop where
 irr:∀ i,i<n->o i i=false
 tr:∀ i j k,i<n->j<n->k<n->o i j=true->o j k=true->o i k=true
 tot:∀ i j,i<n->j<n->i≠j->o i j=true∨o j i=true
section
variable {o:Nat->Nat->Bool} {n:Nat}
structure Bs (n:Nat) (p:Array Nat):Prop where
 perm:p.toList.Perm (List.range n)
theorem Bs.size {p:Array Nat} (h:Bs n p):p.size=n:=by
 have:=h.perm.length_eq
 simpa using this
theorem Bs.lt {p:Array Nat} (h:Bs n p) {i:Nat} (hi:i<n):p.getD i 0<n:=by
 have hs:=h.size
 have e:p.getD i 0=p.toList[i]'(by simpa [hs] using hi):=by simp [Array.getD,hs,hi]
 rw [e]
 have:=h.perm.mem_iff.mp (List.getElem_mem (l:=p.toList) (n:=i) (by simpa [hs] using hi))
 exact List.mem_range.mp this
theorem Bs.inj {p:Array Nat} (h:Bs n p) {i j:Nat} (hi:i<n) (hj:j<n) (hij:i≠j):p.getD i 0≠p.getD j 0:=by
 have hs:=h.size
 have nd:p.toList.Nodup:=h.perm.nodup_iff.mpr List.nodup_range
 have ei:p.getD i 0=p.toList[i]'(by simpa [hs] using hi):=by simp [Array.getD,hs,hi]
 have ej:p.getD j 0=p.toList[j]'(by simpa [hs] using hj):=by simp [Array.getD,hs,hj]
 rw [ei,ej]
 intro e
 exact hij ((List.getElem_inj nd).mp e)
theorem Bs.of {p q:Array Nat} (h:Bs n p) (e:q.Perm p):Bs n q:=⟨(Array.perm_iff_toList_perm.mp e).trans h.perm⟩
theorem Bs.C9:Bs n (List.toArray (List.range n)):=⟨by simp⟩
def Rise (o:Nat->Nat->Bool) (p:Array Nat) (k:Nat):Prop:=∀ i j,i<j->j<k->o (p.getD i 0) (p.getD j 0)=true
def Fall (o:Nat->Nat->Bool) (p:Array Nat) (k:Nat):Prop:=∀ i j,i<j->j<k->o (p.getD j 0) (p.getD i 0)=true
theorem SOrd.flip (O:SOrd o n) {p:Array Nat} (P:Bs n p) {i j:Nat} (hi:i<n) (hj:j<n) (hij:i≠j) (h:o (p.getD i 0) (p.getD j 0)=false):o (p.getD j 0) (p.getD i 0)=true:=by
 rcases O.tot _ _ (P.lt hi) (P.lt hj) (P.inj hi hj hij) with e | e
 ·rw [h] at e; cases e
 ·exact e
theorem Wq (O:SOrd o n) {p:Array Nat} (P:Bs n p):∀ (f m:Nat),1≤m->m+f≤n->Rise o p m ->
  KOk o n (kas_asc p f m) (fun r=>m≤r∧r≤m+f∧Rise o p r∧(r=m+f∨o (p.getD r 0) (p.getD (r - 1) 0)=true))
 | 0,m,h1,_,hr=>⟨Nat.le_refl _,Nat.le_refl _,hr,.inl rfl⟩
 | f+1,m,h1,h2,hr=>by
   unfold kas_asc
   refine ⟨P.lt (by omega),P.lt (by omega),P.inj (by omega) (by omega) (by omega),?_⟩
   cases e:o (p.getD m 0) (p.getD (m - 1) 0) with
   | true=>exact ⟨Nat.le_refl _,by omega,hr,.inr e⟩
   | false=>
     dsimp only
     rw [if_neg (by simp)]
     have e':=O.flip P (by omega) (by omega) (by omega) e
     refine KOk.mono (fun r ⟨a,b,c,d⟩=>⟨by omega,by omega,c,?_⟩) _ (Wq O P f (m+1) (by omega) (by omega) ?_)
     ·intro i j hij hj
      by_cases hjm:j=m
      ·subst hjm
       by_cases him:i=j - 1
       ·rw [him]; exact e'
       ·exact O.tr _ _ _ (P.lt (by omega)) (P.lt (by omega)) (P.lt (by omega)) (hr i (j - 1) (by omega) (by omega)) e'
      ·exact hr i j hij (by omega)
     ·rcases d with d | d
      ·exact .inl (by omega)
      ·exact .inr d
theorem Xv (O:SOrd o n) {p:Array Nat} (P:Bs n p):∀ (f m:Nat),2≤m->m+f≤n->Fall o p m ->
  KOk o n (kas_desc f p m 0) (fun r=>r.1=p∧r.2.2=0∧m≤r.2.1∧r.2.1≤m+f∧Fall o p r.2.1)
 | 0,m,_,_,hf=>⟨rfl,rfl,Nat.le_refl _,Nat.le_refl _,hf⟩
 | f+1,m,h1,h2,hf=>by
   unfold kas_desc
   refine ⟨P.lt (by omega),P.lt (by omega),P.inj (by omega) (by omega) (by omega),?_⟩
   cases e:o (p.getD m 0) (p.getD (m - 1) 0) with
   | true=>
     dsimp only
     rw [if_pos rfl,if_neg (by omega)]
     refine KOk.mono (fun r ⟨a,b,c,d,g⟩=>⟨a,b,by omega,by omega,g⟩) _ (Xv O P f (m+1) (by omega) (by omega) ?_)
     intro i j hij hj
     by_cases hjm:j=m
     ·subst hjm
      by_cases him:i=j - 1
      ·rw [him]; exact e
      ·exact O.tr _ _ _ (P.lt (by omega)) (P.lt (by omega)) (P.lt (by omega)) e (hf i (j - 1) (by omega) (by omega))
     ·exact hf i j hij (by omega)
   | false=>
     dsimp only
     rw [if_neg (by simp)]
     have e':=O.flip P (by omega) (by omega) (by omega) e
     refine ⟨P.lt (by omega),P.lt (by omega),P.inj (by omega) (by omega) (by omega),?_⟩
     dsimp only
     rw [if_pos e']
     exact ⟨rfl,rfl,Nat.le_refl _,Nat.le_add_right _ _,hf⟩
theorem Ig {p:Array Nat} {i:Nat}:p.getD i 0=(p[i]?).getD 0:=by
 simp [Array.getD_eq_getD_getElem?]
theorem bP {p:Array Nat} {m:Nat} (hm:m≤p.size) (hf:Fall o p m):Rise o (kas_rev p 0 m) m:=by
 intro i j hij hj
 have key:∀ k,k<m->(kas_rev p 0 m).getD k 0=p.getD (m - 1 - k) 0:=fun k hk=>by
  rw [Ig,Ig]
  unfold kas_rev
  rw [Nat.sub_zero]
  have q:=getElem?_mirror_all (xs:=p) (i:=0) (j:=m) hm k
  rw [Nat.sub_zero] at q
  rw [q,if_pos ⟨Nat.zero_le _,hk⟩,Nat.zero_add]
 rw [key i (by omega),key j hj]
 exact hf _ _ (by omega) (by omega)
theorem T6 {p:Array Nat} (P:Bs n p) (i j:Nat):Bs n (kas_rev p i j):=P.of (mirror_perm _ _ _ _)
theorem aC (O:SOrd o n) {p:Array Nat} (P:Bs n p) {m:Nat} (h1:1≤m) (h2:m≤n) (hf:Fall o p m) :
  KOk o n (kas_tail3 m n p) (fun r=>1≤r.1∧r.1≤n∧Bs n r.2∧Rise o r.2 r.1):=by
 unfold kas_tail3
 refine KOk.bind _ (KOk.mono (fun r ⟨a,b,c,_⟩=>?_) _ (Wq O (T6 P 0 m) (n - m) m h1 (by omega) (bP (by rw [P.size]; exact h2) hf)))
 exact ⟨by show 1≤r; omega,by show r≤n; omega,T6 P 0 m,c⟩
theorem eQ (O:SOrd o n) {p:Array Nat} (P:Bs n p) (hn:1≤n):KOk o n (kas_count n p) (fun r=>1≤r.1∧r.1≤n∧Bs n r.2∧Rise o r.2 r.1):=by
 unfold kas_count
 refine KOk.bind _ (KOk.mono (fun m ⟨a,b,c,d⟩=>?_) _ (Wq O P (n - 1) 1 (Nat.le_refl _) (by omega) (fun i j hij hj=>by omega)))
 by_cases e:m=n
 ·rw [if_pos (by simp [e])]
  exact ⟨by omega,by omega,P,c⟩
 ·rw [if_neg (by simp [e])]
  by_cases hm:m > 1
  ·rw [if_pos hm]
   refine ⟨P.lt (by omega),P.lt (by omega),P.inj (by omega) (by omega) (by omega),?_⟩
   dsimp only
   rw [if_pos (c 0 (m - 1) (by omega) (by omega))]
   exact ⟨by omega,by omega,P,c⟩
  ·rw [if_neg hm]
   have hm1:m=1:=by omega
   subst hm1
   have d':o (p.getD 1 0) (p.getD 0 0)=true:=by
    rcases d with d | d
    ·omega
    ·exact d
   unfold kas_descPart
   refine KOk.bind _ (KOk.mono (fun r ⟨a1,a2,a3,a4,a5⟩=>?_) _ (Xv O P (n - (1+1)) (1+1) (by omega) (by omega) ?_))
   ·intro i j hij hj
    have:i=0:=by omega
    have:j=1:=by omega
    subst i j
    exact d'
   ·rw [if_neg (by omega)]
    rw [a1]
    exact aC O P (by omega) (by omega) a5
theorem N3 (O:SOrd o n) {p:Array Nat} (P:Bs n p) {k:Nat} (hk:k<n) (hr:Rise o p k):∀ (f l r:Nat),r - l≤f->l≤r->r≤k ->
  (∀ i,i<l->o (p.getD i 0) (p.getD k 0)=true)->(∀ i,r≤i->i<k->o (p.getD k 0) (p.getD i 0)=true) ->
  KOk o n (kas_place p k f l r) (fun q=>q≤k∧(∀ i,i<q->o (p.getD i 0) (p.getD k 0)=true)∧∀ i,q≤i->i<k->o (p.getD k 0) (p.getD i 0)=true)
 | 0,l,r,h0,h1,h2,ha,hb=>by
   have:r=l:=by omega
   subst this
   exact ⟨h2,ha,hb⟩
 | f+1,l,r,h0,h1,h2,ha,hb=>by
   unfold kas_place
   by_cases hlr:l ≥ r
   ·rw [if_pos hlr]
    have:r=l:=by omega
    subst this
    exact ⟨h2,ha,hb⟩
   ·rw [if_neg hlr]
    have hm1:l≤(l+r) / 2:=by omega
    have hm2:(l+r) / 2<r:=by omega
    refine ⟨P.lt hk,P.lt (by omega),P.inj hk (by omega) (by omega),?_⟩
    cases e:o (p.getD k 0) (p.getD ((l+r) / 2) 0) with
    | true=>
      dsimp only
      rw [if_pos rfl]
      refine N3 O P hk hr f l _ (by omega) hm1 (by omega) ha fun i hi hik=>?_
      by_cases hi2:i=(l+r) / 2
      ·rw [hi2]; exact e
      ·exact O.tr _ _ _ (P.lt hk) (P.lt (by omega)) (P.lt (by omega)) e (hr _ i (by omega) hik)
    | false=>
      dsimp only
      rw [if_neg (by simp)]
      have e':=O.flip P hk (by omega) (by omega) e
      refine N3 O P hk hr f _ r (by omega) (by omega) h2 (fun i hi=>?_) hb
      by_cases hi2:i=(l+r) / 2
      ·rw [hi2]; exact e'
      ·exact O.tr _ _ _ (P.lt (by omega)) (P.lt (by omega)) (P.lt hk) (hr i ((l+r) / 2) (by omega) (by omega)) e'
theorem U0 (O:SOrd o n) {p:Array Nat} (P:Bs n p) {k l:Nat} (hk:k<n) (hr:Rise o p k) (hl:l≤k) (ha:∀ i,i<l->o (p.getD i 0) (p.getD k 0)=true) (hb:∀ i,l≤i->i<k->o (p.getD k 0) (p.getD i 0)=true) :
  Rise o (bubble p k (k - l)) (k+1):=by
 have key:∀ i,(bubble p k (k - l)).getD i 0=if i=l then p.getD k 0 else if l<i∧i≤k then p.getD (i - 1) 0 else p.getD i 0:=fun i=>by
  rw [Ig,getElem?_bubble (by rw [P.size]; exact hk) (k - l) (by omega)]
  have e:k - (k - l)=l:=by omega
  rw [e]
  by_cases h1:i=l
  ·rw [if_pos h1,if_pos h1,Ig]
  ·rw [if_neg h1,if_neg h1]
   by_cases h2:l<i∧i≤k
   ·rw [if_pos h2,if_pos h2,Ig]
   ·rw [if_neg h2,if_neg h2,Ig]
 intro i j hij hj
 rw [key i,key j]
 by_cases i1:i=l
 ·rw [if_pos i1,if_neg (by omega),if_pos (by omega)]
  exact hb _ (by omega) (by omega)
 ·rw [if_neg i1]
  by_cases j1:j=l
  ·rw [if_pos j1,if_neg (by omega)]
   exact ha i (by omega)
  ·rw [if_neg j1]
   by_cases i2:l<i∧i≤k
   ·rw [if_pos i2,if_pos (by omega)]
    exact hr _ _ (by omega) (by omega)
   ·rw [if_neg i2]
    by_cases j2:l<j∧j≤k
    ·rw [if_pos j2]
     by_cases e:i=j - 1
     ·omega
     ·exact hr _ _ (by omega) (by omega)
    ·rw [if_neg j2]
     exact hr _ _ hij (by omega)
theorem eT (O:SOrd o n):∀ (f:Nat) {p:Array Nat} (P:Bs n p) (k:Nat),k+f=n->Rise o p k->KOk o n (kas_bin f p k) (fun q=>Bs n q∧Rise o q n)
 | 0,p,P,k,e,hr=>by
   have:k=n:=by omega
   subst this
   exact ⟨P,hr⟩
 | f+1,p,P,k,e,hr=>by
   unfold kas_bin
   refine KOk.bind _ (KOk.mono (fun l ⟨a,b,c⟩=>?_) _ (N3 O P (k:=k) (by omega) hr k 0 k (by omega) (Nat.zero_le _) (Nat.le_refl _) (fun i hi=>by omega) (fun i h1 h2=>by omega)))
   exact eT O f (P.of (bubble_perm _ _ _)) (k+1) (by omega) (U0 O P (by omega) hr a b c)
theorem fF (O:SOrd o n) (hn:1≤n):KOk o n (kas_sort n) (fun q=>Bs n q∧Rise o q n):=by
 unfold kas_sort
 refine KOk.bind _ (KOk.mono (fun r ⟨a,b,c,d⟩=>?_) _ (eQ O Bs.C9 hn))
 by_cases h:r.1<n
 ·rw [if_pos h]
  have e:max r.1 1=r.1:=by omega
  rw [e]
  exact eT O _ c _ (by omega) d
 ·rw [if_neg h]
  have:r.1=n:=by omega
  rw [this] at d
  exact ⟨c,d⟩
end
end L2

namespace L2
open PySem PySem.W PyProof.Rows
section
variable {prog:Program} {w:World} {A:Around} {E:Value->Shared->Prop} {s:Shared}
def Tf (prog:Program) (w:World) (A:Around) (ks:List Value) (o:Nat->Nat->Bool) (s:Shared):Prop:=
 ∃ κ,(∀ (Q:SortKind->Shared->Prop) (E:Value->Shared->Prop),Q κ s->wpAny (model prog w) A (keyKind' ks.toArray) Q E s) ∧
  ∀ i j,i<ks.length->j<ks.length->i≠j->∀ C:Bool->Shared->Prop,C (o i j) s->kas_ask prog w A κ ks i j C s
theorem Nd {ks vs:List Value} {o:Nat->Nat->Bool} {β:Type} {Q:β->Shared->Prop} {f:Unit×SortSt->Sem β} (hl:ks.length=vs.length) (h64:vs.length<64) (O:SOrd o vs.length) (hk:2≤vs.length->Tf prog w A ks o s)
  (h:∀ (p:Array Nat) (st:SortSt),Bs vs.length p->Rise o p vs.length->arrOf st=p.map (kas_item (ks.toArray.zip vs.toArray))->failedOf st=none->wpAny (model prog w) A (f ((),st)) Q E s) :
  wpAny (model prog w) A (do
   let kind ← if vs.toArray.size<2 then pure general' else keyKind' ks.toArray
   let r ← (if vs.toArray.size<2 then pure () else sortRuns').run (SortSt.mk' kind (ks.toArray.zip vs.toArray) #[] 7 none)
   f r) Q E s:=by
 by_cases h2:vs.toArray.size<2
 ·rw [if_pos h2,if_pos h2]
  have h2':vs.length<2:=by simpa using h2
  refine wpAny_bind (wpAny_pure ?_)
  dsimp only
  rw [StateT.run_pure]
  refine wpAny_bind (wpAny_pure (h (List.toArray (List.range vs.length)) _ Bs.C9 (fun i j hij hj=>by omega) ?_ rfl))
  have e:=kas_range (ks.toArray.zip vs.toArray)
  rw [show (ks.toArray.zip vs.toArray).size=vs.length by simp [hl]] at e
  exact e.symm
 ·rw [if_neg h2,if_neg h2]
  have h2':2≤vs.length:=by
   have:¬ vs.length<2:=by simpa using h2
   omega
  obtain ⟨κ,hκ,hc⟩:=hk h2'
  refine wpAny_bind (hκ _ _ ?_)
  have tree:(kas_sort vs.length).kasWp (kas_ask prog w A κ ks) (fun p s'=>s'=s∧Bs vs.length p∧Rise o p vs.length) s:=
   KOk.wp (fun i j hi hj hij C hC=>hc i j (by omega) (by omega) hij C hC) (fun p hp=>⟨rfl,hp.1,hp.2⟩) _ (fF O (by omega))
  refine wpAny_bind (wpAny_mono (kat_run (E:=E) (Q:=fun st s'=>∃ p:Array Nat,s'=s∧Bs vs.length p∧Rise o p vs.length∧arrOf st=p.map (kas_item (ks.toArray.zip vs.toArray))∧failedOf st=none) hl h2' h64
   (fun p st s' _ a2 a3 a4=>⟨p,a4.1,a4.2.1,a4.2.2,a2,a3⟩) tree) ?_ fun _ _ e=>e)
  rintro ⟨⟨⟩,st⟩ s' ⟨p,rfl,hp,hr,ha,hf⟩
  exact h p st hp hr ha hf
theorem Pz {ks vs:List Value} (hl:ks.length=vs.length) {st:SortSt} {p:Array Nat} (har:arrOf st=p.map (kas_item (ks.toArray.zip vs.toArray))):(arrOf st).map (·.2)=List.toArray (p.toList.map fun i=>vs.getD i Value.none):=kat_snds hl har
theorem U8 {D:Addr} {vs:List Value} {n:Nat} {o:Nat->Nat->Bool} {P:PySem.Fin->Shared->Prop} (ho:s.heap.get? D=some (seqObj "list" vs.toArray n)) (h64:vs.length<64) (O:SOrd o vs.length)
  (hk:2≤vs.length->∀ h':Heap,(∀ b u,b≠D->s.heap.get? b=some u->h'.get? b=some u)->Tf prog w A vs o {s with heap:=h'})
  (h:∀ (h':Heap) (p:Array Nat) (c:Nat),Bs vs.length p->Rise o p vs.length->(∀ b u,b≠D->s.heap.get? b=some u->h'.get? b=some u)->h'.get? D=some (seqObj "list" (List.toArray (p.toList.map fun i=>vs.getD i Value.none)) c)->P (.done (.ret .none)) {s with heap:=h'}) :
  wpAny (model prog w) A (Builtin.«list.sort» ⟨[.ref D],[]⟩) P E s:=by
 have hD:D<s.heap.objs.size:=Heap.lt_size ho
 have s1:=Heap.SameBut.update s.heap D (Obj.mapSeq fun _=>(#[]:Array Value))
 obtain ⟨e1,ho1⟩:∃ e1,(s.heap.update D (Obj.mapSeq fun _=>(#[]:Array Value))).get? D=some (seqObj "list" #[] e1):=⟨_,get?_update_seq ho fun _=>#[]⟩
 have line:vs.length≤sizeLine:=by rw [sizeLine_eq]; omega
 rw [list_sort_plain]
 refine wpAny_bind (listItems_at ho rfl ?_)
 refine wpAny_bind (listUpdate_at ho rfl ?_ (by rw [List.size_toArray]; exact line) (Nat.zero_le _))
 refine wpAny_bind (seqEpoch_at ho1 rfl (wpAny_bind (wpAny_newTuple ?_ line)))
 refine wpAny_bind (wpAny_newList (wpAny_holding ?_) (Nat.zero_le _))
 dsimp only
 generalize hg:((s.heap.update D (Obj.mapSeq fun _=>(#[]:Array Value))).push _).push _=h2
 have ho2:h2.get? D=some (seqObj "list" #[] e1):=by rw [← hg]; exact Heap.get?_push_of_some _ (Heap.get?_push_of_some _ ho1)
 have kp:∀ b u,b≠D->s.heap.get? b=some u->h2.get? b=some u:=fun b u hb e=>by rw [← hg]; exact Heap.get?_push_of_some _ (Heap.get?_push_of_some _ ((s1.2 b hb).trans e))
 refine Nd (s:={s with heap:=h2}) rfl h64 O (fun z=>hk z h2 kp) fun p st hp hr ha hf=>?_
 dsimp only
 have hsz:(List.toArray (p.toList.map fun i=>vs.getD i Value.none)).size=vs.length:=by rw [List.size_toArray,List.length_map,Array.length_toList,hp.size]
 rw [Pz rfl ha]
 have s2:=Heap.SameBut.update h2 D (Obj.mapSeq fun _=>List.toArray (p.toList.map fun i=>vs.getD i Value.none))
 refine wpAny_bind (seqEpoch_at ho2 rfl ?_)
 refine wpAny_bind (listUpdate_at ho2 rfl ?_ (Nat.zero_le _) (Nat.le_trans (Nat.le_of_eq hsz) (Nat.le_succ_of_le line)))
 rw [hf]
 simp only [bne_self_eq_false,Bool.false_eq_true,if_false]
 exact wpAny_pure (h _ p _ hp hr (fun b u hb e=>(s2.2 b hb).trans (kp b u hb e)) (get?_update_seq ho2 fun _=>List.toArray (p.toList.map fun i=>vs.getD i Value.none)))
theorem Tu {x:Value} {xs:List V} {o:Nat->Nat->Bool} {Q:Value->Shared->Prop} (h64:xs.length<64) (O:SOrd o xs.length)
  (hcol:∀ (R:List Value->Shared->Prop) (E:Value->Shared->Prop),(∀ (h':Heap) (tk:Nat) (vs:List Value),Vals xs vs->(∀ b u,s.heap.get? b=some u->h'.get? b=some u)->R vs {s with heap:=h',toks:=tk})->wpAny (model prog w) A.in1 (collect x) R E s)
  (hk:2≤xs.length->∀ (h':Heap) (tk:Nat) (vs:List Value),Vals xs vs->(∀ b u,s.heap.get? b=some u->h'.get? b=some u)->Tf prog w A.in1.in1 vs o {s with heap:=h',toks:=tk})
  (h:∀ (D:Addr) (h1 h':Heap) (tk:Nat) (vs:List Value) (p:Array Nat) (c:Nat),Vals xs vs->Bs xs.length p->Rise o p xs.length->(∀ b u,s.heap.get? b=some u->h1.get? b=some u)->h1.objs.size≤D->(∀ b u,h1.get? b=some u->h'.get? b=some u) ->
    h'.get? D=some (seqObj "list" (List.toArray (p.toList.map fun i=>vs.getD i Value.none)) c)->Q (.ref D) {s with heap:=h',toks:=tk}) :
  wpAny (model prog w) A (call (.builtin "sorted") [x]) Q E s:=by
 refine Calls.call_function_entry kind_sorted plain_sorted entry_sorted (args_sorted1 _) ?_
 unfold Builtin.«sorted»
 refine wpAny_bind (m:=checkCount "sorted" 1 1 _) (wpAny_pure (wpAny_bind (hcol _ _ fun h1 tk vs rv k1=>?_)))
 have hl:xs.length=vs.length:=rv.length
 have line:vs.length≤sizeLine:=by rw [sizeLine_eq]; omega
 refine wpAny_bind (wpAny_newList ?_ line)
 have hoL:(h1.push {cls:=.type "list",data:=.seq vs.toArray}).get? h1.objs.size=some (seqObj "list" vs.toArray 0):=Heap.get?_push_size _ rfl
 refine wpAny_bind (wpAny_holding (wpAny_call_entry slot_list_sort ⟨_,hoL,rfl⟩ entry_list_sort ?_ (args_list_sort _)))
 have nD:∀ b u,s.heap.get? b=some u->b≠h1.objs.size:=fun b u e=>Nat.ne_of_lt (Heap.lt_size (k1 b u e))
 refine U8 (s:={s with heap:=h1.push {cls:=.type "list",data:=.seq vs.toArray},toks:=tk}) (o:=o) hoL (by omega) (by rw [← hl]; exact O) (fun z h' kp=>hk (by omega) h' tk vs rv fun b u e=>kp b u (nD b u e) (Heap.get?_push_of_some _ (k1 b u e))) fun h' p c hp hr kp hD=>?_
 exact ⟨_,rfl,wpAny_pure ⟨_,rfl,h _ h1 h' tk vs p c rv (by rw [hl]; exact hp) (by rw [hl]; exact hr) k1 (Nat.le_refl _) (fun b u e=>kp b u (Nat.ne_of_lt (Heap.lt_size e)) (Heap.get?_push_of_some _ e)) hD⟩⟩
theorem Um {b fin:Bool} {Q:Bool->Shared->Prop}:∀ (ns ms:List Int) (us ws:List Value) (ta tb:List V) (i:Nat),Vals (ns.map V.int++ta) us->Vals (ms.map V.int++tb) ws->ns.length=ms.length->ns≠ms->Q (HT.A7 ns ms) s ->
  KatLex prog w A b fin Q (us.zip ws) i s
 | [],[],_,_,_,_,_,_,_,_,hne,_=>absurd rfl hne
 | [],_::_,_,_,_,_,_,_,_,hl,_,_=>by simp at hl
 | _::_,[],_,_,_,_,_,_,_,hl,_,_=>by simp at hl
 | x::ns,y::ms,us,ws,ta,tb,i,r1,r2,hl,hne,hq=>by
   cases r1 with
   | cons a1 r1=>
     cases r2 with
     | cons a2 r2=>
       obtain ⟨t,rfl⟩:=a1
       obtain ⟨u,rfl⟩:=a2
       rw [List.zip_cons_cons]
       refine kat_cons (wpAny_eqBool_int ?_)
       rw [HT.Ci] at hq
       by_cases e:x=y
       ·subst e
        rw [if_pos rfl] at hq
        rw [show (x==x)=true by simp]
        refine kat_yes (Um ns ms _ _ ta tb (i+1) r1 r2 (by simpa using hl) (fun z=>hne (by rw [z])) hq)
       ·rw [if_neg e] at hq
        rw [show (x==y)=false by simp [e]]
        refine kat_no ?_
        cases (b&&i==0) with
        | true=>exact oneLt_int hq
        | false=>exact kat_one _ _ (lt_int (show PySem.W.BoolBack Q (.bool (decide (x<y))) s from hq))
def D9 (h:Heap) (ks:List Value) (nss:List (List Int)):Prop:=Paired (fun (k:Value) (ns:List Int)=>∃ a us ta,k=.ref a∧IsTup h a (List.toArray us)∧Vals (ns.map V.int++ta) us) ks nss
theorem D9.get {h:Heap}:∀ {ks:List Value} {nss:List (List Int)},D9 h ks nss->∀ i,i<ks.length->∃ a us ta,ks.getD i .none=.ref a∧IsTup h a (List.toArray us)∧Vals ((nss.getD i []).map V.int++ta) us
 | _,_,.nil,i,hi=>by simp at hi
 | _,_,.cons r _,0,_=>r
 | _,_,.cons _ t,i+1,hi=>D9.get t i (by simpa using hi)
theorem D9.firsts {h:Heap}:∀ {ks:List Value} {nss:List (List Int)},D9 h ks nss->(∀ ns∈nss,ns≠[])->∃ fs,KatTups h ks fs∧fs.length=ks.length∧∀ v∈fs,∃ x t,v=Value.int x t
 | _,_,.nil,_=>⟨[],trivial,rfl,fun v hv=>by simp at hv⟩
 | k::ks,ns::nss,.cons r t,hne=>by
   obtain ⟨a,us,ta,rfl,⟨o,ho,hc,n,hd⟩,rv⟩:=r
   obtain ⟨fs,h1,h2,h3⟩:=D9.firsts (ks:=ks) (nss:=nss) t fun z hz=>hne z (List.mem_cons_of_mem _ hz)
   have hn0:=hne ns List.mem_cons_self
   cases ns with
   | nil=>exact absurd rfl hn0
   | cons x ns=>
     cases rv with
     | cons a1 rv=>
       obtain ⟨t',rfl⟩:=a1
       refine ⟨.int x t'::fs,KatTups.cons ho hc hd (by simp) h1,by simp [h2],fun v hv=>?_⟩
       rcases List.mem_cons.mp hv with rfl | hv
       ·exact ⟨x,t',rfl⟩
       ·exact h3 v hv
theorem Io {ks:List Value} {nss:List (List Int)} {k:Nat} (T:D9 s.heap ks nss) (hne:0<ks.length) (hk:0<k) (hlen:∀ ns∈nss,ns.length=k) (hd:nss.Pairwise (·≠·)) :
  Tf prog w A ks (fun i j=>HT.A7 (nss.getD i []) (nss.getD j [])) s:=by
 have hl:ks.length=nss.length:=Paired.length T
 obtain ⟨fs,h1,h2,h3⟩:=T.firsts fun ns hns e=>by have:=hlen ns hns; rw [e] at this; simp at this; omega
 refine ⟨tuples' (Value.type "int" != Value.type "tuple"),fun Q E q=>kat_kind h1 (by omega) (T:=.type "int") (fun v hv=>?_) (by decide) q,fun i j hi hj hij C hC=>?_⟩
 ·obtain ⟨x,t,rfl⟩:=h3 v hv
  exact Looks.now
 ·obtain ⟨a,us,ta,e1,⟨oa,ha,ca,na,da⟩,r1⟩:=T.get i hi
  obtain ⟨c,ws,tc,e2,⟨oc,hc,cc,nc,dc⟩,r2⟩:=T.get j hj
  unfold kas_ask
  rw [e1,e2]
  have mi:nss.getD i []∈nss:=by
   have hi':i<nss.length:=by omega
   rw [show nss.getD i []=nss[i] by simp [hi']]
   exact List.getElem_mem _
  have mj:nss.getD j []∈nss:=by
   have hj':j<nss.length:=by omega
   rw [show nss.getD j []=nss[j] by simp [hj']]
   exact List.getElem_mem _
  have hd':nss.getD i []≠nss.getD j []:=by
   have hi':i<nss.length:=by omega
   have hj':j<nss.length:=by omega
   rw [show nss.getD i []=nss[i] by simp [hi'],show nss.getD j []=nss[j] by simp [hj']]
   rcases Nat.lt_or_gt_of_ne hij with z | z
   ·exact List.pairwise_iff_getElem.mp hd i j hi' hj' z
   ·exact (List.pairwise_iff_getElem.mp hd j i hj' hi' z).symm
  refine kat_lt ha da hc dc ?_
  simp only [List.toList_toArray]
  exact Um _ _ _ _ ta tc 0 r1 r2 (by rw [hlen _ mi,hlen _ mj]) hd' hC
theorem H0:∀ ns:List Int,HT.A7 ns ns=false
 | []=>rfl
 | x::r=>by rw [HT.Ci,if_pos rfl]; exact H0 r
theorem Oi:∀ {a b c:List Int},HT.A7 a b=true->HT.A7 b c=true->HT.A7 a c=true
 | [],[],_,h,_=>by rw [HT.Eu] at h; cases h
 | [],_::_,[],_,h=>by rw [HT.Di] at h; cases h
 | [],_::_,_::_,_,_=>HT.Dh _ _
 | _::_,[],_,h,_=>by rw [HT.Di] at h; cases h
 | _::_,_::_,[],_,h=>by rw [HT.Di] at h; cases h
 | x::a,y::b,z::c,h1,h2=>by
   rw [HT.Ci] at h1 h2 ⊢
   by_cases e1:x=y
   ·subst e1
    rw [if_pos rfl] at h1
    by_cases e2:x=z
    ·rw [if_pos e2] at h2 ⊢
     exact Oi h1 h2
    ·rw [if_neg e2] at h2 ⊢
     exact h2
   ·rw [if_neg e1] at h1
    have h1':=of_decide_eq_true h1
    by_cases e2:y=z
    ·subst e2
     rw [if_neg e1]
     exact h1
    ·rw [if_neg e2] at h2
     have h2':=of_decide_eq_true h2
     rw [if_neg (by omega)]
     exact decide_eq_true (by omega)
theorem P6:∀ {a b:List Int},a≠b->HT.A7 a b=true∨HT.A7 b a=true
 | [],[],h=>absurd rfl h
 | [],_::_,_=>.inl (HT.Dh _ _)
 | _::_,[],_=>.inr (HT.Dh _ _)
 | x::a,y::b,h=>by
   rw [HT.Ci,HT.Ci]
   by_cases e:x=y
   ·subst e
    rw [if_pos rfl,if_pos rfl]
    exact P6 fun z=>h (by rw [z])
   ·rw [if_neg e,if_neg (Ne.symm e)]
    by_cases l:x<y
    ·exact .inl (decide_eq_true l)
    ·exact .inr (decide_eq_true (by omega))
theorem T3 {nss:List (List Int)} (hd:nss.Pairwise (·≠·)):SOrd (fun i j=>HT.A7 (nss.getD i []) (nss.getD j [])) nss.length where
 irr:=fun i _=>H0 _
 tr:=fun i j k _ _ _ h1 h2=>Oi h1 h2
 tot:=fun i j hi hj hij=>P6 (by
  rw [show nss.getD i []=nss[i] by simp [hi],show nss.getD j []=nss[j] by simp [hj]]
  rcases Nat.lt_or_gt_of_ne hij with z | z
  ·exact List.pairwise_iff_getElem.mp hd i j hi hj z
  ·exact (List.pairwise_iff_getElem.mp hd j i hj hi z).symm)
theorem Vq {α:Type} {xs:List α} {d:α} {p:Array Nat} (P:Bs xs.length p):(p.toList.map fun i=>xs.getD i d).Perm xs:=by
 have h:=P.perm.map (fun i=>xs.getD i d)
 have e:(List.range xs.length).map (fun i=>xs.getD i d)=xs:=by
  apply List.ext_getElem
  ·simp
  ·intro i h1 h2
   simp at h1 ⊢
   simp [h1]
 rw [e] at h
 exact h
theorem Vm {α:Type} {xs:List α} {d:α} {p:Array Nat} {o:Nat->Nat->Bool} {R:α->α->Prop} (P:Bs xs.length p) (hr:Rise o p xs.length) (ho:∀ i j,i<xs.length->j<xs.length->o i j=true->R (xs.getD i d) (xs.getD j d)) :
  (p.toList.map fun i=>xs.getD i d).Pairwise R:=by
 rw [List.pairwise_map,List.pairwise_iff_getElem]
 intro i j hi hj hij
 have hs:=P.size
 have hi':i<xs.length:=by simpa [hs] using hi
 have hj':j<xs.length:=by simpa [hs] using hj
 have e1:p.getD i 0=p.toList[i]:=by simp [Array.getD,hs,hi']
 have e2:p.getD j 0=p.toList[j]:=by simp [Array.getD,hs,hj']
 have:=hr i j hij hj'
 rw [e1,e2] at this
 exact ho _ _ (by rw [← e1]; exact P.lt hi') (by rw [← e2]; exact P.lt hj') this
end
end L2

namespace L2
open PySem PySem.Spec PyProof.Rows
section
variable {X:Cx} {pins:List (Addr×Obj)} {σ:St} {H:Hp} {s:Shared}
theorem Inv.turns {fp:List Addr} {h':Heap} {t':Nat} (I:Inv X pins σ H s) (hf:∀ b∈fp,FpOk X pins H b) (k:∀ b o,b∉fp->s.heap.get? b=some o->h'.get? b=some o):Inv X pins σ H {s with heap:=h',toks:=t'}:=by
 have nfp:∀ b u,H b=some u->b∉fp:=fun b u e z=>by rw [(hf b z).1] at e; cases e
 refine I.step (g':=s.gens) (d':=s.drawn) (ch:=fp) (fun b hb=>?_) (fun b o _ _ hc e _=>k b o hc e) (fun b o _ _ hc e _=>⟨o.slots,k b o hc e⟩) (fun _ _ _ _ n=>n)
  (fun b o hc e=>⟨o,k b o hc e⟩) (fun _ _ e=>e) (fun _ _ _ e=>e) (fun b ps e=>⟨#[],by rw [e]; simp⟩) (fun m hm=>?_) (fun b u e=>?_) I.bare
 ·obtain ⟨_,g1,_,g3,g4,g5⟩:=hf b hb
  exact ⟨g3,g1,g4,g5⟩
 ·obtain ⟨o,es,ep,ho,r⟩:=hm
  exact ⟨o,es,ep,k _ o (fun z=>(hf _ z).2.1 rfl) ho,r⟩
 ·refine (I.hok b u e).stay (fun c v hc q=>k c v ?_ q) (fun _ q=>q) fun _ _ q=>q
  rcases hc with z | z
  ·rw [z]; exact nfp b u e
  ·exact nfp c _ z
theorem Inv.track {D:Addr} {o:HO} (I:Inv X pins σ H s) (f:FpOk X pins H D) (new:B6 X.prog X.w (upd H D o) s.heap D o):Inv X pins σ (upd H D o) s:=by
 obtain ⟨f0,f1,f2,f3,f4,f5⟩:=f
 refine ⟨I.ok,I.os,I.bare,⟨I.base.keep,I.base.slot,fun b ob e n hx=>?_,I.base.there,fun b xs e=>?_,fun b ob xs e=>?_,fun b ps e=>?_⟩,I.loc,I.cell,?_,fun x c e=>?_,fun p hp=>?_,fun b ob e=>?_,I.len⟩
 ·have hb:b≠D:=fun z=>by
   subst z
   rcases f3 with z | z
   ·exact hx z
   ·exact absurd (Nat.lt_of_lt_of_le (Heap.lt_size e) z) (Nat.lt_irrefl _)
  rw [Ae hb]; exact I.base.free b ob e n hx
 ·have q:=I.base.tups b xs e
  rw [Ae (Aj q f0)]; exact q
 ·have q:=I.base.frzs b ob xs e
  rw [Ae (Aj q f0)]; exact q
 ·obtain ⟨m,q⟩:=I.base.tbls b ps e
  exact ⟨m,by rw [Ae (Aj q f0)]; exact q⟩
 ·rw [Ae (Ne.symm f1)]; exact I.free
 ·rw [Ae (f4 x c e)]; exact I.freeC x c e
 ·obtain ⟨a1,a2,a3,a4,a5⟩:=I.pin p hp
  exact ⟨a1,by rw [Ae (f5 p hp)]; exact a2,a3,a4,a5⟩
 ·by_cases hb:b=D
  ·subst hb
   rw [Ag] at e; cases e
   exact new
  ·rw [Ae hb] at e
   exact (I.hok b ob e).stay (fun _ _ _ q=>q) (fun c q=>by rw [Ae (Aj q f0)]; exact q) fun c xs q=>by rw [Ae (Aj q f0)]; exact q
theorem Inv.repin {D:Addr} {o o':Obj} {h':Heap} {t':Nat} {more:List (Addr×Obj)} (I:Inv X (pins++((D,o)::more)) σ H s) (f:FpOk X (pins++more) H D) (k:∀ b u,b≠D->s.heap.get? b=some u->h'.get? b=some u) (e:h'.get? D=some o') (hd:∀ v,o'.data≠.cell v) :
  Inv X (pins++((D,o')::more)) σ H {s with heap:=h',toks:=t'}:=by
 obtain ⟨f0,f1,f2,f3,f4,f5⟩:=f
 have I1:Inv X (pins++more) σ H s:=I.pins_of fun p hp=>I.pin p (List.mem_append_right _ (by
  rcases List.mem_append.mp hp with z | z
  ·exact List.mem_append_left _ z
  ·exact List.mem_append_right _ (List.mem_cons_of_mem _ z)))
 have I2:Inv X (pins++more) σ H {s with heap:=h',toks:=t'}:=I1.turned (fun b u hb q=>k b u hb q) f0 f1 f3 f4 f5
 refine I2.pins_of fun p hp=>?_
 rcases List.mem_append.mp hp with z | z
 ·exact I2.pin p (List.mem_append_right _ (List.mem_append_left _ z))
 ·rcases List.mem_cons.mp z with z | z
  ·rw [z]; exact ⟨e,f0,f1,f2,hd⟩
  ·exact I2.pin p (List.mem_append_right _ (List.mem_append_right _ z))
theorem Inv.pin1 {D:Addr} {o:Obj} (I:Inv X pins σ H s) (f:FpOk X pins H D) (e:s.heap.get? D=some o) (hd:∀ v,o.data≠.cell v):Inv X (pins++[(D,o)]) σ H s:=I.pins_of fun p hp=>by
 rcases List.mem_append.mp hp with z | z
 ·exact I.pin p (List.mem_append_right _ z)
 ·rw [List.mem_singleton.mp z]; exact ⟨e,f.1,f.2.1,f.2.2.1,hd⟩
theorem FpOk.heap {D:Addr} {H':Hp} (f:FpOk X pins H D) (h:H' D=none):FpOk X pins H' D:=⟨h,f.2⟩
structure O8 (K:PySem.W.Frag) (C:Addr) (m:Str) (g:Addr):Prop extends Meth K C m g where
 get:PySem.W.specialIn K (.ref g) "__get__"=some (some (.builtin "function.__get__"))
 tk:PySem.W.takesIn K (.ref g)=some false
 cp:PySem.W.copiedNames.contains m=false
theorem Uq {A:Around} {E:Value->Shared->Prop} {a C dx g:Addr} {fs:List (Str×V)} {m:Str} {b:Bool} {Q:Value->Shared->Prop} (I:Inv X pins σ H s) (e:H a=some (.ins C dx fs)) (c:Cls X.K C) (k:O8 X.K C m g) (l:fs.lookup m=none)
  (h:∀ q s',H q=none->Inv X pins σ (upd H q (.met g a)) s'->Q (.ref q) s'):wpAny (model X.prog X.w) A (getAttr (.ref a) m b) Q E s:=by
 obtain ⟨mA,O,r,_,_,_⟩:=J6 I.hok e
 have hn:mA m=none:=RelO.none_of (by rw [← l]; exact r m)
 obtain ⟨od,J,hl⟩:=O.look
 have hg:=c.get m
 refine PySem.W.get_bind I.kIn J (PySem.W.plainGet_of hg).1 (PySem.W.findObj_fn c.hd k.at_ k.get k.tk k.cp (by rw [hl,hn])) (PySem.W.plainGet_of hg).2 ?_
 refine wpAny_call (PySem.W.fn_get (s:={s with toks:=s.toks+1}) I.kIn (beq_iff_eq.mp k.fn) (PySem.W.handed_on rfl (h s.heap.objs.size _ (I.hok.fresh (Nat.le_refl _)) ?_)))
 exact I.laid (fun b u q=>Heap.get?_push_of_some _ q) (Nat.le_refl _) (Heap.get?_push_size _ rfl)
def jC (C:Addr) (m:Str) (g:Addr) (ta:TE):TE:=fun σ H Q=>ta σ H fun x H1=>∃ a dx fs,x=.ref a∧H1 a=some (.ins C dx fs)∧fs.lookup m=none∧∀ q,H1 q=none->Q (.ref q) (upd H1 q (.met g a))
theorem Ua {e:Expr} {ta:TE} {C g:Addr} {m:Str} {pos:Pos} (he:PE X e ta) (c:Cls X.K C) (k:O8 X.K C m g) (hb:attributeBase e m X.env (eval e X.env)=eval e X.env):PE X (.Attribute e m pos) (jC C m g ta):=by
 intro pins s σ H Q I h
 refine X0 hb (thn (he pins s σ H _ I h) fun u s1 ⟨x,H1,I1,r1,a,dx,fs,ex,ea,l,q⟩=>?_)
 subst ex
 cases r1
 exact Uq I1 ea c k l fun p s' hp I'=>⟨.ref p,_,I',rfl,q p hp⟩
def Coll (K:PySem.W.Frag) (H:Hp) (x:V) (xs:List V):Prop:=∃ p,x=.ref p∧(SqL K H p xs∨∃ kvs,Rd H p (.dK kvs)∧xs=kvs.map fun kv=>kV kv.1)
theorem Ku {P:Program} {w:World}:∀ {kvs:List (Key×V)} {vs:List (Key×Value)} {us:List Value},KV kvs vs->us.length=vs.length->(∀ (j:Nat) (v:Value),us[j]?=some v->∃ k x,vs[j]?=some (k,x)∧(A6 P w).is k v=true)->Vals (kvs.map fun kv=>kV kv.1) us
 | _,_,[],.nil,_,_=>.nil
 | _,_,_::_,.nil,h,_=>by simp at h
 | _,_,[],.cons _ _,h,_=>by simp at h
 | (k,v)::kvs,(k',v')::vs,u::us,.cons r t,hl,hu=>by
  obtain ⟨k1,x1,e1,i1⟩:=hu 0 u rfl
  have e1':(k',v')=(k1,x1):=by simpa using e1
  cases e1'
  have hk:k=k':=r.1
  subst hk
  refine .cons ?_ (Ku t (by simpa using hl) fun j v e=>hu (j+1) v (by simpa using e))
  rcases Bt (show Lg k u=true from i1) with ⟨i,t',rfl,rfl⟩ | ⟨x,t',rfl,rfl⟩
  ·exact ⟨t',rfl⟩
  ·exact ⟨t',rfl⟩
theorem Xz {A:Around} {x:V} {u:Value} {xs:List V} (I:Inv X pins σ H s) (hh:A.handled=none) (c:Coll X.K H x xs) (r:RelV x u):xs.length≤sizeLine ∧
  ∀ (R:List Value->Shared->Prop) (E:Value->Shared->Prop),(∀ (h':Heap) (tk:Nat) (vs':List Value),Vals xs vs'->(∀ b u,s.heap.get? b=some u->h'.get? b=some u)->R vs' {s with heap:=h',toks:=tk})->wpAny (model X.prog X.w) A (collect u) R E s:=by
 obtain ⟨p,rfl,c⟩:=c
 cases r
 rcases c with c | ⟨kvs,c,rfl⟩
 ·obtain ⟨its,rv,pl,hz⟩:=I.list c
  refine ⟨hz,fun R E hR=>collect_list pl.isList ?_ (by rw [← rv.length]; exact hz)⟩
  refine hR _ s.toks its rv fun b u e=>?_
  have hb:b≠s.heap.objs.size:=Nat.ne_of_lt (Heap.lt_size e)
  rw [Heap.get?_update_ne _ _ _ _ hb]
  exact Heap.get?_push_of_some _ e
 ·obtain ⟨hz,hd,vs,kv,dd⟩:=Ip I.hok c
  obtain ⟨ep,hat⟩:=dd.dictAt
  have hl:=kv.length
  refine ⟨by rw [List.length_map]; exact hz,fun R E hR=>?_⟩
  refine PySem.W.kdu_collect (PySem.W.kdl_dict (knd:=A6 X.prog X.w) (kvs:=vs) (ep:=ep) hd) hh hat (by rw [← hl]; exact hz) fun h' tk acc kp ha=>?_
  refine hR h' tk acc.toList (Ku (P:=X.prog) (w:=X.w) kv (by rw [Array.length_toList]; exact ha.1) fun j v e=>?_) kp
  obtain ⟨k,x,e1,e2⟩:=ha.2 j v (by rw [← Array.getElem?_toList]; exact e)
  exact ⟨k,x,e1,e2⟩
theorem Kc {xs:List V} {vs:List Value} (r:Vals xs vs):∀ (l:List Nat),(∀ i∈l,i<xs.length)->Vals (l.map fun i=>xs.getD i .non) (l.map fun i=>vs.getD i Value.none)
 | [],_=>.nil
 | i::l,h=>by
   have hi:=h i List.mem_cons_self
   have hl:=r.length
   obtain ⟨u,e,ru⟩:=r.get (i:=i) (x:=xs.getD i .non) (by simp [hi])
   refine .cons ?_ (Kc r l fun j hj=>h j (List.mem_cons_of_mem _ hj))
   have e':vs.getD i Value.none=u:=by
    have:i<vs.length:=by omega
    simp [List.getD,e]
   show RelV _ (vs.getD i Value.none)
   rw [e']
   exact ru
theorem U7 {D:Addr} {h1 h':Heap} {tk:Nat} {xs:List V} {vs:List Value} {p:Array Nat} {c:Nat} (I:Inv X pins σ H s) (k1:∀ b u,s.heap.get? b=some u->h1.get? b=some u) (hD:h1.objs.size≤D) (k2:∀ b u,h1.get? b=some u->h'.get? b=some u)
  (rv:Vals xs vs) (P:Bs xs.length p) (hz:xs.length≤sizeLine) (e:h'.get? D=some (seqObj "list" (List.toArray (p.toList.map fun i=>vs.getD i Value.none)) c)) :
  H D=none∧Inv X pins σ (upd H D (.lst (p.toList.map fun i=>xs.getD i .non))) {s with heap:=h',toks:=tk}:=by
 have I1:Inv X pins σ H {s with heap:=h1,toks:=tk}:=I.kept k1
 refine ⟨I1.hok.fresh hD,I1.laid (a:=D) (t':=tk) k2 hD ⟨?_,_,c,Kc rv _ fun i hi=>?_,e⟩⟩
 ·rw [List.length_map,Array.length_toList,P.size]; exact hz
 ·exact List.mem_range.mp (P.perm.mem_iff.mp hi)
def G9 (zs qs:List (V×List Int)):Prop:=qs.Perm zs∧qs.Pairwise fun a b=>HT.A7 a.2 b.2=true
theorem K5 {zs:List (V×List Int)} {p:Array Nat} (P:Bs zs.length p) (R:Rise (fun i j=>HT.A7 ((zs.map (·.2)).getD i []) ((zs.map (·.2)).getD j [])) p zs.length) :
  ∃ qs,G9 zs qs∧(p.toList.map fun i=>(zs.map (·.1)).getD i .non)=qs.map (·.1):=by
 refine ⟨p.toList.map fun i=>zs.getD i (.non,[]),⟨Vq P,Vm P R fun i j hi hj h=>?_⟩,?_⟩
 ·simpa [hi,hj] using h
 ·rw [List.map_map]
  refine List.map_congr_left fun i hi=>?_
  have:i<zs.length:=List.mem_range.mp (P.perm.mem_iff.mp hi)
  simp [this]
theorem Mz {xs:List V} {nss:List (List Int)} (I:Inv X pins σ H s):∀ {zs:List (V×List Int)} {vs:List Value},(∀ z∈zs,∃ a ta,z.1=.ref a∧SqT X.K H a (z.2.map V.int++ta))->Vals (zs.map (·.1)) vs->D9 s.heap vs (zs.map (·.2))
 | [],_,_,.nil=>.nil
 | z::zs,v::vs,h,.cons r t=>by
   obtain ⟨a,ta,e,hq⟩:=h z List.mem_cons_self
   have r:RelV z.1 v:=r
   rw [e] at r
   cases r
   obtain ⟨its,rv,hT,_⟩:=I.tuple hq
   exact .cons ⟨a,its,ta,rfl,hT,rv⟩ (Mz (xs:=xs) (nss:=nss) I (fun y hy=>h y (List.mem_cons_of_mem _ hy)) t)
def fU (K:PySem.W.Frag):List V->Hp->VK->Prop:=fun us H Q=>∃ (x:V) (zs:List (V×List Int)) (k:Nat),us=[x]∧Coll K H x (zs.map (·.1))∧zs.length<64∧0<k∧(∀ z∈zs,z.2.length=k)∧(zs.map (·.2)).Pairwise (·≠·) ∧
 (∀ z∈zs,∃ a ta,z.1=.ref a∧SqT K H a (z.2.map V.int++ta))∧∀ qs D,G9 zs qs->H D=none->Q (.ref D) (upd H D (.lst (qs.map (·.1))))
theorem Uz (hc:X.calm=true):D4 X (.builtin "sorted") (fU X.K):=by
 intro pins s σ H us vs Q I r h
 obtain ⟨x,zs,k,rfl,hcoll,h64,hk,hlen,hd,ht,hq⟩:=h
 obtain ⟨u,rfl,ru⟩:=D3 r
 have hh:X.A.handled=none:=I.ok.hd hc
 obtain ⟨hz,hcol⟩:=Xz (A:=X.A.in1) I hh hcoll ru
 have hl:(zs.map (·.1)).length=zs.length:=List.length_map ..
 have hl2:(zs.map (·.2)).length=zs.length:=List.length_map ..
 refine Tu (xs:=zs.map (·.1)) (o:=fun i j=>HT.A7 ((zs.map (·.2)).getD i []) ((zs.map (·.2)).getD j [])) (by rw [hl]; exact h64) (by rw [hl,← hl2]; exact T3 hd) hcol (fun h2 h' tk vs' rv kp=>?_) fun D h1 h' tk vs' p c rv P R k1 hD k2 e=>?_
 ·have I1:Inv X pins σ H {s with heap:=h',toks:=tk}:=I.kept kp
  have hrl:=rv.length
  refine Io (k:=k) (Mz (xs:=[]) (nss:=[]) I1 ht rv) (by omega) hk (fun ns hns=>?_) hd
  obtain ⟨z,hz1,rfl⟩:=List.mem_map.mp hns
  exact hlen z hz1
 ·rw [hl] at P R
  obtain ⟨hn,IF⟩:=U7 (tk:=tk) I k1 hD k2 rv (by rw [hl]; exact P) hz e
  obtain ⟨qs,S,eq⟩:=K5 P R
  rw [eq] at IF
  exact ⟨.ref D,_,IF,rfl,hq qs D S hn⟩
theorem Jb {CX:CXT} {kk:Nat} {g a q:Addr} {fd:FuncData} {ps:List Str} {sp:Sp} {y:V} {u:Value} {Q:VK} {A:Around} {E:Value->Shared->Prop} {σ:St} (F:FnOk X.prog X.w X.K X.mg X.base CX0 kk g fd ps sp) (hr:Room kk A) (hA:A.frames=X.A.frames) (hb:B8 X.K fd ps [])
  (I:Inv X pins σ H s) (hq:H q=some (.met g a)) (ry:RelV y u) (h:sp [.ref a,y] H Q E0):wpAny (model X.prog X.w) A (call (.ref q) [u]) (EP X pins σ Q) E s:=by
 have ho:s.heap.get? q=some (PySem.W.methodObj (.ref g) (.ref a)):=I.hok q _ hq
 have e0:=I.env0
 have r2:Vals [V.ref a,y] [Value.ref a,u]:=.cons rfl (.cons ry .nil)
 have hl:([Value.ref a,u]++([]:List Value)).length=ps.length:=by rw [← F.len _ _ _ _ h]; rfl
 have hb':=hb s [.ref a,u] I.kIn hl
 refine wpAny_call (PySem.W.method_call ho (codeAny_mono (F.run A X.stack s H ⟨[.ref a,u],[]⟩ [.ref a,u] [.ref a,y] Q E0 hr ⟨by rw [hA]; exact e0.frames,e0.mod,e0.bs,e0.bsz,e0.funs,e0.frf,e0.hok,e0.bare⟩ hb' r2 h) fun r s' hq'=>?_))
 cases r with
 | error e=>exact hq'.elim
 | ok fl=>
   cases fl with
   | ret v=>exact I.after hq'
   | next=>exact hq'.elim
   | brk=>exact hq'.elim
   | cont=>exact hq'.elim
def X3 (H:Hp) (k:Value) (ns:List Int):Prop:=∃ t,k=.ref t∧H t=some (.tup (ns.map V.int))
theorem P8 (I:Inv X pins σ H s):∀ {ks:List Value} {nss:List (List Int)},Paired (X3 H) ks nss->D9 s.heap ks nss
 | _,_,.nil=>.nil
 | _,_,.cons ⟨t,e,ht⟩ r=>by
   obtain ⟨its,rv,hT,_⟩:=I.tuple (SqT.of ht)
   exact .cons ⟨t,its,[],e,hT,by rw [List.append_nil]; exact rv⟩ (P8 I r)
theorem Ol {H':Hp} (S:Same H H'):∀ {ks:List Value} {nss:List (List Int)},Paired (X3 H) ks nss->Paired (X3 H') ks nss
 | _,_,.nil=>.nil
 | _,_,.cons ⟨t,e,ht⟩ r=>.cons ⟨t,e,S _ _ ht⟩ (Ol S r)
theorem Ds {c:String} {xs:Array Value} {n:Nat}:∀ v,(seqObj c xs n).data≠.cell v:=fun v e=>by cases e
theorem U9 {kk n k:Nat} {g a q D:Addr} {fd:FuncData} {ps:List Str} {sp:Sp} {A:Around} {E:Value->Shared->Prop} {P:PySem.Fin->Shared->Prop} {zs:List (V×List Int)} {vs:List Value}
  (F:FnOk X.prog X.w X.K X.mg X.base CX0 kk g fd ps sp) (hr:Room kk A) (hA:A.frames=X.A.frames) (hb:B8 X.K fd ps []) (I:Inv X pins σ H s) (fD:FpOk X pins H D) (hq:H q=some (.met g a))
  (ho:s.heap.get? D=some (seqObj "list" vs.toArray n)) (rv:Vals (zs.map (·.1)) vs) (h64:zs.length<64) (hk:0<k) (hlen:∀ z∈zs,z.2.length=k) (hd:(zs.map (·.2)).Pairwise (·≠·))
  (hsp:∀ z∈zs,∀ (H':Hp) (Q':VK),Same H H'->(∀ t,H' t=none->Q' (.ref t) (upd H' t (.tup (z.2.map V.int))))->sp [.ref a,z.1] H' Q' E0)
  (h:∀ (s':Shared) (H':Hp) (p:Array Nat) (c:Nat),Same H H'->Inv X pins σ H' s'->FpOk X pins H' D->Bs zs.length p->Rise (fun i j=>HT.A7 ((zs.map (·.2)).getD i []) ((zs.map (·.2)).getD j [])) p zs.length ->
    s'.heap.get? D=some (seqObj "list" (List.toArray (p.toList.map fun i=>vs.getD i Value.none)) c)->P (.done (.ret .none)) s') :
  wpAny (model X.prog X.w) A (ksk_tree D (.ref q) false) P E s:=by
 have hvl:zs.length=vs.length:=by rw [← rv.length,List.length_map]
 have line:vs.length≤sizeLine:=by rw [sizeLine_eq]; omega
 have hD:D<s.heap.objs.size:=Heap.lt_size ho
 have s1:=Heap.SameBut.update s.heap D (Obj.mapSeq fun _=>(#[]:Array Value))
 obtain ⟨e1,ho1⟩:∃ e1,(s.heap.update D (Obj.mapSeq fun _=>(#[]:Array Value))).get? D=some (seqObj "list" #[] e1):=⟨_,get?_update_seq ho fun _=>#[]⟩
 unfold ksk_tree
 refine wpAny_bind (listItems_at ho rfl ?_)
 refine wpAny_bind (listUpdate_at ho rfl ?_ (by rw [List.size_toArray]; exact line) (Nat.zero_le _))
 refine wpAny_bind (seqEpoch_at ho1 rfl (wpAny_bind (wpAny_newTuple ?_ line)))
 refine wpAny_bind (wpAny_newList (wpAny_holding ?_) (Nat.zero_le _))
 dsimp only
 generalize hg1:(s.heap.update D (Obj.mapSeq fun _=>(#[]:Array Value))).push _=h1
 have hS:(h1.push {cls:=.type "list",data:=.seq ([]:List Value).toArray}).get? h1.objs.size=some (seqObj "list" #[] 0):=Heap.get?_push_size _ rfl
 have kp1:∀ b u,b≠D->s.heap.get? b=some u->h1.get? b=some u:=fun b u hb e=>by rw [← hg1]; exact Heap.get?_push_of_some _ ((s1.2 b hb).trans e)
 have hoD:h1.get? D=some (seqObj "list" #[] e1):=by rw [← hg1]; exact Heap.get?_push_of_some _ ho1
 generalize hkS:h1.objs.size=kS at *
 have hDS:D≠kS:=by rw [← hkS]; exact Nat.ne_of_lt (Heap.lt_size hoD)
 have Ia:Inv X (pins++[(D,seqObj "list" vs.toArray n)]) σ H s:=I.pin1 fD ho Ds
 have Ib:Inv X (pins++[(D,seqObj "list" #[] e1)]) σ H {s with heap:=h1}:=Ia.repin (more:=[]) (t':=s.toks) (by rw [List.append_nil]; exact fD) kp1 hoD Ds
 have Ic:Inv X (pins++[(D,seqObj "list" #[] e1)]) σ H {s with heap:=h1.push {cls:=.type "list",data:=.seq ([]:List Value).toArray}}:=Ib.kept (t':=s.toks) fun b u e=>Heap.get?_push_of_some _ e
 have fS:FpOk X (pins++[(D,seqObj "list" #[] e1)]) H kS:=Ib.fpOk (by show h1.objs.size≤kS; omega) (Ib.hok.fresh (by show h1.objs.size≤kS; omega))
 have Id:Inv X ((pins++[(D,seqObj "list" #[] e1)])++[(kS,seqObj "list" #[] 0)]) σ H {s with heap:=h1.push {cls:=.type "list",data:=.seq ([]:List Value).toArray}}:=Ic.pin1 fS hS Ds
 unfold ksk_rest
 refine wpAny_bind (wpAny_rule ?_)
 first
  | rw [List.forIn_toArray]
  | (rw [← Array.forIn_toList]; simp only [List.toList_toArray])
 refine wpAny_bind (ksk_fold (fun i s'=>∃ (H':Hp) (ks:List Value) (c:Nat),Same H H'∧Inv X ((pins++[(D,seqObj "list" #[] e1)])++[(kS,seqObj "list" (List.toArray ks) c)]) σ H' s'∧Paired (X3 H') ks ((zs.map (·.2)).take i)) vs 0 _ ⟨H,[],0,Same.refl H,Id,by rw [List.take_zero]; exact .nil⟩ ?_ ?_)
 ·rintro j x s2 hx ⟨H2,ks,c,S2,I2,K2⟩
  rw [Nat.zero_add] at K2 ⊢
  have hj:j<zs.length:=by rw [hvl]; exact (List.getElem?_eq_some_iff.mp hx).1
  obtain ⟨u,eu,ru⟩:=rv.get (i:=j) (x:=zs[j].1) (by simp [hj])
  have:u=x:=Option.some.inj (eu.symm.trans hx)
  subst this
  have hkl:ks.length≤zs.length:=by
   have:=Paired.length K2
   rw [List.length_take,List.length_map] at this
   omega
  refine wpAny_bind (wpAny_attempt (wpAny_mono (Jb (CX:=CX0) (Q:=fun v H3=>∃ t,v=.ref t∧H2 t=none∧H3=upd H2 t (.tup (zs[j].2.map V.int))) (E:=fun _ _=>False) F hr hA hb I2 (S2 _ _ hq) ru (hsp zs[j] (List.getElem_mem _) H2 _ S2 fun t ht=>⟨t,rfl,ht,rfl⟩)) (fun k' s3 hk3=>?_) fun _ _ f=>f.elim))
  obtain ⟨v,H3,I3,r3,t,rfl,ht,rfl⟩:=hk3
  cases r3
  have S3:Same H2 (upd H2 t (.tup (zs[j].2.map V.int))):=fun b o e=>by rw [Ae (Aj e ht)]; exact e
  obtain ⟨pS,nS,_,_,_⟩:=I3.pin (kS,seqObj "list" (List.toArray ks) c) (by simp)
  have s3:=Heap.SameBut.update s3.heap kS (Obj.mapSeq (·.push (.ref t)))
  dsimp only
  refine wpAny_bind (listUpdate_at pS rfl ?_ (by rw [List.size_toArray,sizeLine_eq]; omega) (Nat.le_trans (Nat.le_of_eq (Array.size_push ..)) (by rw [List.size_toArray,sizeLine_eq]; omega)))
  have CC:∃ c':Nat,c'=if ((List.toArray ks).push (.ref t)).size==(List.toArray ks).size then c else c+1:=⟨_,rfl⟩
  obtain ⟨c',ec'⟩:=CC
  refine wpAny_pure ⟨rfl,_,ks++[.ref t],c',S2.trans S3,I3.repin (more:=[]) (t':=_) (by rw [List.append_nil]; exact fS.heap nS) (fun b u hb e=>(s3.2 b hb).trans e) (o':=seqObj "list" (List.toArray (ks++[.ref t])) c') ?_ Ds,?_⟩
  ·rw [show List.toArray (ks++[.ref t])=(List.toArray ks).push (.ref t) by simp,ec']
   exact get?_update_seq pS (·.push (.ref t))
  ·have e2:(zs.map (·.2)).take (j+1)=(zs.map (·.2)).take j++[zs[j].2]:=by
    rw [List.take_add_one]
    simp [hj]
   rw [e2]
   exact (Ol S3 K2).snoc ⟨t,rfl,Ag⟩
 ·rintro s2 ⟨H2,ks,c,S2,I2,K2⟩
  rw [Nat.zero_add,← hvl,show (zs.map (·.2)).take zs.length=zs.map (·.2) by rw [List.take_of_length_le]; simp] at K2
  have hkl:ks.length=zs.length:=by rw [Paired.length K2,List.length_map]
  obtain ⟨pS,nS,_,_,_⟩:=I2.pin (kS,seqObj "list" (List.toArray ks) c) (by simp)
  obtain ⟨pD,nD,_,_,_⟩:=I2.pin (D,seqObj "list" #[] e1) (by simp)
  try dsimp only
  refine wpAny_bind (listItems_at pS rfl ?_)
  unfold ksk_end
  dsimp only
  simp only [Bool.false_eq_true,if_false]
  refine Nd (o:=fun i j=>HT.A7 ((zs.map (·.2)).getD i []) ((zs.map (·.2)).getD j [])) (by omega) (by omega) (by rw [← hvl,← List.length_map (f:=(·.2)) (as:=zs)]; exact T3 hd) (fun h2=>?_) fun p st hp hr' ha hf=>?_
  ·exact Io (k:=k) (P8 I2 K2) (by omega) hk (fun ns hns=>by
    obtain ⟨z,hz1,rfl⟩:=List.mem_map.mp hns
    exact hlen z hz1) hd
  ·unfold ksk_tail
   dsimp only
   rw [Pz (by omega) ha]
   have hsz:(List.toArray (p.toList.map fun i=>vs.getD i Value.none)).size=vs.length:=by rw [List.size_toArray,List.length_map,Array.length_toList,hp.size]
   have sS:=Heap.SameBut.update s2.heap kS (Obj.mapSeq fun _=>(#[]:Array Value))
   refine wpAny_bind (listUpdate_at pS rfl ?_ (by rw [List.size_toArray,sizeLine_eq]; omega) (Nat.zero_le _))
   refine wpAny_bind (wpAny_letGo ?_)
   have I3:=I2.repin (more:=[]) (t':=s2.toks) (by rw [List.append_nil]; exact fS.heap nS) (fun b u hb e=>(sS.2 b hb).trans e) (get?_update_seq pS fun _=>(#[]:Array Value)) Ds
   obtain ⟨pD3,nD3,_,_,_⟩:=I3.pin (D,seqObj "list" #[] e1) (by simp)
   refine wpAny_bind (seqEpoch_at pD3 rfl ?_)
   have sD:=Heap.SameBut.update (s2.heap.update kS (Obj.mapSeq fun _=>(#[]:Array Value))) D (Obj.mapSeq fun _=>List.toArray (p.toList.map fun i=>vs.getD i Value.none))
   refine wpAny_bind (listUpdate_at pD3 rfl ?_ (Nat.zero_le _) (Nat.le_trans (Nat.le_of_eq hsz) (Nat.le_succ_of_le line)))
   rw [hf]
   simp only [bne_self_eq_false,Bool.false_eq_true,if_false]
   have I4:Inv X pins σ H2 {s2 with heap:=s2.heap.update kS (Obj.mapSeq fun _=>(#[]:Array Value))}:=I3.unpinned.unpinned
   have fD':FpOk X pins H2 D:=fD.heap nD3
   obtain ⟨g0,g1,_,g3,g4,g5⟩:=fD'
   have I5:=I4.turned (t':=s2.toks) (it:=D) (fun b u hb e=>(sD.2 b hb).trans e) g0 g1 g3 g4 g5
   exact wpAny_pure (h _ H2 p _ S2 I5 ⟨g0,g1,by assumption,g3,g4,g5⟩ (by rw [hvl]; exact hp) (by rw [hvl]; exact hr') (get?_update_seq pD3 fun _=>List.toArray (p.toList.map fun i=>vs.getD i Value.none)))
def Rs (K:PySem.W.Frag) (g:Addr) (sp:Sp) (x f:V) (H2:Hp) (Q:VK):Prop:=∃ (q a:Addr) (zs:List (V×List Int)) (k:Nat),f=.ref q∧H2 q=some (.met g a)∧Coll K H2 x (zs.map (·.1))∧zs.length<64∧0<k∧(∀ z∈zs,z.2.length=k)∧(zs.map (·.2)).Pairwise (·≠·) ∧
 (∀ z∈zs,∀ (H':Hp) (Q':VK),Same H2 H'->(∀ t,H' t=none->Q' (.ref t) (upd H' t (.tup (z.2.map V.int))))->sp [.ref a,z.1] H' Q' E0) ∧
 ∀ qs D H',G9 zs qs->H2 D=none->Same H2 H'->H' D=some (.lst (qs.map (·.1)))->Q (.ref D) H'
def iV (K:PySem.W.Frag) (g:Addr) (sp:Sp) (ti tk:TE):TE:=fun σ H Q=>ti σ H fun x H1=>tk σ H1 fun f H2=>Rs K g sp x f H2 Q
def one1 (R:V->Hp->Prop):List V->Hp->Prop:=fun vs H=>match vs with
 | [x]=>R x H
 | _=>False
theorem Mq {R:V->Hp->Prop}:∀ {vs:List V} {H:Hp},one1 R vs H->∃ x,vs=[x]∧R x H
 | [],_,h=>h.elim
 | [x],_,h=>⟨x,rfl,h⟩
 | _::_::_,_,h=>h.elim
theorem Va {kk:Nat} {g:Addr} {fd:FuncData} {ps:List Str} {sp:Sp} {x f:V} {u v:Value} {Q:VK} (hc:X.calm=true) (F:FnOk X.prog X.w X.K X.mg X.base CX0 kk g fd ps sp) (hr:Room (kk+2) X.A) (hb:B8 X.K fd ps []) (I:Inv X pins σ H s) (rx:RelV x u) (rf:RelV f v) (h:Rs X.K g sp x f H Q) :
  wpAny (model X.prog X.w) X.A (call (.builtin "sorted") [u] [(Str.ofString "key",v)]) (EP X pins σ Q) X.xe s:=by
 obtain ⟨q,a,zs,k,rfl,hq,hcoll,h64,hk,hlen,hd,hsp,hQ⟩:=h
 cases rf
 obtain ⟨hz,hcol⟩:=Xz (A:=X.A.in1) I (I.ok.hd hc) hcoll rx
 rw [List.length_map] at hz
 refine call_function_entry_kw kind_sorted plain_sorted entry_sorted (ksk_s1 _ _) ?_
 unfold Builtin.«sorted»
 refine wpAny_bind (m:=checkCount "sorted" 1 1 _) (wpAny_pure (wpAny_bind (hcol _ _ fun h1 tk vs rv k1=>?_)))
 have hl:zs.length=vs.length:=by rw [← rv.length,List.length_map]
 refine wpAny_bind (wpAny_newList ?_ (by rw [← hl]; exact hz))
 have hoL:(h1.push {cls:=.type "list",data:=.seq vs.toArray}).get? h1.objs.size=some (seqObj "list" vs.toArray 0):=Heap.get?_push_size _ rfl
 have I1:Inv X pins σ H {s with heap:=h1,toks:=tk}:=I.kept k1
 have I2:Inv X pins σ H {s with heap:=h1.push {cls:=.type "list",data:=.seq vs.toArray},toks:=tk}:=I1.kept (t':=tk) fun b u e=>Heap.get?_push_of_some _ e
 have fD:FpOk X pins H h1.objs.size:=I1.fpOk (Nat.le_refl _) (I1.hok.fresh (Nat.le_refl _))
 refine wpAny_bind (wpAny_holding (wpAny_call_entry_kw slot_list_sort ⟨_,hoL,rfl⟩ entry_list_sort ?_ (ksk_l1 _ _)))
 show wpAny (model X.prog X.w) X.A.in1.in1 (Builtin.«list.sort» ⟨[.ref h1.objs.size],[(Str.ofString "key",.ref q)]⟩) _ _ _
 rw [ksk_t1]
 refine U9 F hr.in1.in1 rfl hb I2 fD hq hoL rv h64 hk hlen hd hsp fun s' H' p c S I' f' P R e=>?_
 obtain ⟨qs,SB,eq⟩:=K5 P R
 refine ⟨_,rfl,wpAny_pure ⟨_,rfl,.ref h1.objs.size,upd H' h1.objs.size (.lst (qs.map (·.1))),?_,rfl,hQ qs _ _ SB fD.1 (fun b o e'=>?_) Ag⟩⟩
 ·refine I'.track f' ⟨?_,_,c,?_,e⟩
  ·rw [List.length_map,SB.1.length_eq]; exact hz
  ·rw [← eq]
   exact Kc rv _ fun i hi=>by rw [List.length_map]; exact List.mem_range.mp (P.perm.mem_iff.mp hi)
 ·rw [Ae (Aj e' fD.1)]; exact S b o e'
theorem bY {kk:Nat} {g:Addr} {fd:FuncData} {ps:List Str} {sp:Sp} {e f:Expr} {ti tk:TE} {p pos kpos:Pos} (hc:X.calm=true) (F:FnOk X.prog X.w X.K X.mg X.base CX0 kk g fd ps sp) (hr:Room (kk+2) X.A) (hb:B8 X.K fd ps []) (hg:Gl X "sorted") (hm:X.mg "sorted"=none)
  (he:PE X e ti) (hf:PE X f tk) (hs:starEach [e] X.env=(false,eval e X.env)::starEach [] X.env:=by rfl) (hbt:backTo pos (starEach [e] X.env)=(false,eval e X.env)::backTo pos (starEach [] X.env):=by rfl)
  (hpl:(backTo pos (starEach [e] X.env)).any (·.1)=false:=by rfl):PE X (.Call (.Name "sorted" p) [e] [⟨some "key",f,kpos⟩] pos) (iV X.K g sp ti tk):=by
 intro pins s σ H Q I h
 refine wpAny_Call_Name_kw (G3 I hg hm boot_sorted ?_ (by decide) (by decide))
 refine callWith_kw (thn ((Aa he Ac hs) pos pins s σ H (one1 fun x H1=>tk σ H1 fun f H2=>Rs X.K g sp x f H2 Q) I h) fun us s1 ⟨vs,H1,I1,r1,q1⟩=>?_) hbt hpl rfl rfl
 obtain ⟨x,rfl,q1⟩:=Mq q1
 obtain ⟨u,rfl,ru⟩:=D3 r1
 refine thn ((Xh hf bU) pos pins s1 σ H1 (one1 fun f H2=>Rs X.K g sp x f H2 Q) I1 q1) fun ws s2 ⟨zs,H2,I2,r2,q2⟩=>?_
 obtain ⟨f',rfl,q2⟩:=Mq q2
 obtain ⟨v,rfl,rv⟩:=D3 r2
 exact Va hc F hr hb I2 ru rv q2
end
end L2

namespace L2
open PySem PySem.Spec PyProof.Rows
section
variable {X:Cx} {pins:List (Addr×Obj)} {σ:St} {H:Hp} {s:Shared}
def iR (i j:Int):Prop:=0<j∧j<2 ^ 200
theorem Zx {j:Int} (h:0<j∧j<2 ^ 200):j.natAbs.log2<9000:=by
 have h0:j.natAbs≠0:=by omega
 have e:j.natAbs<2 ^ 200:=by
  have:=h.2
  have h1:=h.1
  omega
 have:=(Nat.log2_lt h0).mpr e
 omega
theorem Oa:OpR X (binaryOp .FloorDiv) (rI iR fun i j=>.int (i / j)):=opI fun i j _ _ _ _ _ hc q=>by
 refine floordiv_int (by have:=hc.1; omega) ?_ (.inl (PyProof.noPylong_of_log2 (Zx hc)))
 rw [Int.fdiv_eq_ediv_of_nonneg _ (Int.le_of_lt hc.1)]
 exact q
theorem gW:MtR X "int.bit_length" (fun x vs H Q=>∃ i,x=.int i∧vs=[]∧Q (.int (Builtin.Int.intBits i)) H):=by
 intro pins s σ H x xs v us Q I rx rv h
 obtain ⟨i,rfl,rfl,q⟩:=h
 obtain ⟨t,rfl⟩:=rx
 cases rv
 exact call_int_bit_length ⟨.int (Builtin.Int.intBits i),H,I.tok _,⟨_,rfl⟩,q⟩
def rIsi (K:PySem.W.Frag):List V->Hp->VK->Prop:=fun vs H Q=>∃ x T t b,vs=[x,.ty T]∧TyOf K H x t∧PySem.W.kitOne K t (.type T)=some b∧Q (.bl b) H
theorem eS:D4 X (.builtin "isinstance") (rIsi X.K):=by
 intro pins s σ H xs us Q I r h
 obtain ⟨x,T,t,b,rfl,ty,e,q⟩:=h
 obtain ⟨u,v,rfl,ru,rv⟩:=Th r
 cases (show v=Value.type T from rv)
 exact Qa I ru ty e fun tk=>⟨.bl b,H,I.tok tk,rfl,q⟩
theorem Hy:OpR X (compareOp .LtE) (fun x y H Q=>∃ i j,x=.str i∧y=.str j∧Q (.bl (!decide (j.cps.toList<i.cps.toList))) H):=by
 intro pins s σ H x y v u Q I rx ry h
 obtain ⟨i,j,rfl,rfl,q⟩:=h
 obtain ⟨t,rfl⟩:=rx
 obtain ⟨t',rfl⟩:=ry
 exact PySem.P.le_str (A8 I q rfl)
def rSlS:V->Option Int->Option Int->Hp->VK->Prop:=fun x lo hi H Q=>∃ z,x=.str z∧z.length≤sizeLine∧Q (.str (Txt.slice z lo hi)) H
theorem Xm {v:Value} {o:Option Int} (p:IsPart v o):∃ q:Option (Int×Tok),v=partValue q∧q.map (·.1)=o:=by
 cases p with
 | none=>exact ⟨none,rfl,rfl⟩
 | int i t=>exact ⟨some (i,t),rfl,rfl⟩
theorem F5:SlR X rSlS:=by
 intro pins s σ H x v vl vu lo hi sl Q I rx hs pl pu h
 obtain ⟨z,rfl,hz,q⟩:=h
 obtain ⟨t,rfl⟩:=rx
 obtain ⟨ql,rfl,rfl⟩:=Xm pl
 obtain ⟨qu,rfl,rfl⟩:=Xm pu
 refine ⟨"str",_,PySem.F.slot_str_getitem.lookup,typeIs_str _ _ _,wpAny_getItem_str_slice (l:=ql) (u:=qu) (st:=none) hs rfl ?_⟩
 exact post_val_or_str ⟨Nat.le_trans (Txt.slice_le z _ _) hz,fun t' k=>⟨.str _,H,I.tok k,⟨t',rfl⟩,q⟩⟩
theorem M9:∀ {zs:List Str} {us:List Value},Vals (zs.map V.str) us->StrsAre us zs
 | [],_,.nil=>.nil
 | z::zs,_,.cons r t=>by
   obtain ⟨u,rfl⟩:=r
   exact .cons _ _ (M9 t)
def rJoin (K:PySem.W.Frag):V->List V->Hp->VK->Prop:=fun x vs H Q=>∃ z p zs,x=.str z∧vs=[.ref p]∧SqL K H p (zs.map V.str)∧(zs.map (·.length)).sum+zs.length * z.length≤16777216∧Q (.str (Txt.join z zs)) H
theorem Xo:MtR X "str.join" (rJoin X.K):=by
 intro pins s σ H x xs v us Q I rx rv h
 obtain ⟨z,p,zs,rfl,rfl,hq,hl,q⟩:=h
 obtain ⟨t,rfl⟩:=rx
 obtain ⟨u,rfl,ru⟩:=D3 rv
 cases ru
 obtain ⟨its,rl,pl,_⟩:=I.list hq
 exact join_list pl.isList (by simpa using M9 rl) hl fun t' k=>⟨.str _,H,I.tok k,⟨t',rfl⟩,q⟩
theorem O3 (hc:X.calm=true):D4 X (.builtin "all") (fun vs H Q=>∃ (p:Addr) (bs:List Bool),vs=[.ref p]∧SqL X.K H p (bs.map V.bl)∧Q (.bl (bs.all id)) H):=by
 intro pins s σ H xs us Q I r h
 obtain ⟨p,bs,rfl,hq,q⟩:=h
 obtain ⟨u,rfl,ru⟩:=D3 r
 cases ru
 obtain ⟨its,rl,pl,hz⟩:=I.list hq
 have hh:X.A.in1.handled=none:=I.ok.hd hc
 have hl:=rl.length
 rw [List.length_map] at hl
 refine call_all_walk (wpAny_pyIter_list pl.isList ?_)
 have hne:p≠s.heap.objs.size:=by
  obtain ⟨o,ho,_⟩:=pl.isList
  exact Nat.ne_of_lt (Heap.lt_size ho)
 refine ⟨s.heap.objs.size,_,_,_,_,_,fun i=>bs.getD i true,rfl,Walks.list hh _ p hne its.toArray,⟨⟨_,Heap.get?_push_size _ rfl,rfl,rfl⟩,pl.isList.at fun o e=>Heap.get?_push_of_some _ e⟩,?_,fun h' tk kp=>?_⟩
 ·intro i v s' Q' E' hv hq'
  have hv':its[i]?=some v:=by simpa using hv
  have hi:i<bs.length:=by rw [hl]; exact (List.getElem?_eq_some_iff.mp hv').1
  obtain ⟨u,eu,ru⟩:=rl.get (i:=i) (x:=.bl bs[i]) (by simp [hi])
  have:u=v:=Option.some.inj (eu.symm.trans hv')
  subst this
  cases (show u=Value.bool bs[i] from ru)
  refine wpAny_truthy_bool ?_
  rw [show bs[i]=bs.getD i true by simp [hi]]
  exact hq'
 ·have e:((List.range its.toArray.size).all fun i=>bs.getD i true)=bs.all id:=by
   rw [List.size_toArray,← hl]
   rw [Bool.eq_iff_iff,List.all_eq_true,List.all_eq_true]
   constructor
   ·intro h x hx
    obtain ⟨i,hi,rfl⟩:=List.getElem_of_mem hx
    have:=h i (List.mem_range.mpr hi)
    simpa [hi] using this
   ·intro h i hi
    have hi:=List.mem_range.mp hi
    have:=h bs[i] (List.getElem_mem _)
    simpa [hi] using this
  rw [e]
  refine ⟨.bl _,H,I.turns (fp:=[s.heap.objs.size]) (t':=tk) (fun b hb=>?_) fun b o hb e'=>kp b o hb (Heap.get?_push_of_some _ e'),rfl,q⟩
  rw [List.mem_singleton.mp hb]
  exact I.fpOk (Nat.le_refl _) (I.hok.fresh (Nat.le_refl _))
def eqVs:List V->List V->Bool
 | [],[]=>true
 | x::xs,y::ys=>eqV x y&&eqVs xs ys
 | _,_=>false
theorem Us:∀ {xs ys:List V},eqVs xs ys=true->xs.length=ys.length
 | [],[],_=>rfl
 | [],_::_,h=>by cases h
 | _::_,[],h=>by cases h
 | x::xs,y::ys,h=>by
   unfold eqVs at h
   rw [Bool.and_eq_true] at h
   rw [List.length_cons,List.length_cons,Us h.2]
theorem O1:∀ {xs ys:List V},xs.length=ys.length->((List.range xs.length).all fun i=>eqV (xs.getD i .non) (ys.getD i .non))=eqVs xs ys
 | [],[],_=>rfl
 | [],_::_,h=>by simp at h
 | _::_,[],h=>by simp at h
 | x::xs,y::ys,h=>by
   rw [List.length_cons,List.range_succ_eq_map,List.all_cons,List.all_map]
   show (eqV x y&&(List.range xs.length).all fun i=>eqV (xs.getD i .non) (ys.getD i .non))=(eqV x y&&eqVs xs ys)
   rw [O1 (by simpa using h)]
theorem Xu {xs ys:List V} (h:xs.length≠ys.length):eqVs xs ys=false:=by
 cases e:eqVs xs ys with
 | false=>rfl
 | true=>exact absurd (Us e) h
theorem Qg:∀ {a b:List Str},eqVs (a.map V.str) (b.map V.str)=decide (a=b)
 | [],[]=>by simp [eqVs]
 | [],_::_=>by simp [eqVs]
 | _::_,[]=>by simp [eqVs]
 | x::a,y::b=>by
   rw [List.map_cons,List.map_cons]
   show (eqV (.str x) (.str y)&&eqVs (a.map V.str) (b.map V.str))=_
   rw [Qg]
   by_cases e:x=y
   ·subst e
    by_cases e2:a=b
    ·subst e2; simp [eqV]
    ·simp [e2]
   ·have:eqV (.str x) (.str y)=false:=by simp [eqV,e]
    simp [this,e]
def rEqL (K:PySem.W.Frag) (neg:Bool):R2:=fun x y H Q=>∃ p q xs ys,x=.ref p∧y=.ref q∧SqL K H p xs∧SqL K H q ys∧xs.all Cv=true∧ys.all Cv=true∧Q (.bl (if neg=true then !eqVs xs ys else eqVs xs ys)) H
theorem eA {A:Around} {xs ys:List V} {us ws:List Value} (r1:Vals xs us) (r2:Vals ys ws) (f1:xs.all Cv=true) (f2:ys.all Cv=true):∀ j (h1:j<us.toArray.size) (h2:j<ws.toArray.size),SeqAt.EqAt A s us.toArray[j] ws.toArray[j] (eqV (xs.getD j .non) (ys.getD j .non)):=fun j h1 h2=>by
 have l1:=r1.length
 have l2:=r2.length
 have j1:j<us.length:=by simpa using h1
 have j2:j<ws.length:=by simpa using h2
 have k1:j<xs.length:=by omega
 have k2:j<ys.length:=by omega
 obtain ⟨u,e1,q1⟩:=r1.get (i:=j) (x:=xs[j]) (by simp [k1])
 obtain ⟨v,e2,q2⟩:=r2.get (i:=j) (x:=ys[j]) (by simp [k2])
 have d1:us.toArray[j]=u:=by
  have:us[j]?=some us[j]:=by simp [j1]
  rw [this] at e1; simpa using Option.some.inj e1
 have d2:ws.toArray[j]=v:=by
  have:ws[j]?=some ws[j]:=by simp [j2]
  rw [this] at e2; simpa using Option.some.inj e2
 rw [d1,d2,show xs.getD j .non=xs[j] by simp [k1],show ys.getD j .non=ys[j] by simp [k2]]
 exact Wh q1 q2 (List.all_eq_true.mp f1 _ (List.getElem_mem _)) (List.all_eq_true.mp f2 _ (List.getElem_mem _))
theorem jR (hu:X.A.units<cLine):OpR X (compareOp .Eq) (rEqL X.K false):=by
 intro pins s σ H x y v u Q I rx ry h
 obtain ⟨p,q,xs,ys,rfl,rfl,h1,h2,f1,f2,hq⟩:=h
 cases rx
 cases ry
 obtain ⟨us,r1,p1,_⟩:=I.list h1
 obtain ⟨ws,r2,p2,_⟩:=I.list h2
 have l1:=r1.length
 have l2:=r2.length
 by_cases e:xs.length=ys.length
 ·refine SeqAt.eq_listAt p1.isList p2.isList (by simp; omega) hu (eA r1 r2 f1 f2) ?_
  rw [List.size_toArray,← l1,O1 e]
  exact A8 I hq rfl
 ·refine SeqAt.eq_list_lengthsAt p1.isList p2.isList (by simp; omega) hu ?_
  refine A8 I hq ?_
  rw [Xu e]; rfl
theorem cC (hu:X.A.units<cLine):OpR X (compareOp .NotEq) (rEqL X.K true):=by
 intro pins s σ H x y v u Q I rx ry h
 obtain ⟨p,q,xs,ys,rfl,rfl,h1,h2,f1,f2,hq⟩:=h
 cases rx
 cases ry
 obtain ⟨us,r1,p1,_⟩:=I.list h1
 obtain ⟨ws,r2,p2,_⟩:=I.list h2
 have l1:=r1.length
 have l2:=r2.length
 by_cases e:xs.length=ys.length
 ·refine SeqAt.RcNeAt.lists p1.isList p2.isList (by simp; omega) hu (eA r1 r2 f1 f2) _ _ _ _ ?_
  rw [List.size_toArray,← l1,O1 e]
  exact A8 I hq rfl
 ·refine SeqAt.RcNeAt.lists_lengths p1.isList p2.isList (by simp; omega) hu _ _ _ _ ?_
  refine A8 I hq ?_
  rw [Xu e]; rfl
def Its (x:Str):It:=⟨fun i _=>i<x.cps.size,fun i H v H'=>H'=H∧∃ c,x.cps[i]?=some c∧v=.str ⟨#[c]⟩,fun i _=>x.cps.size≤i⟩
theorem Z7 {P:Program} {w:World} {K:PySem.W.Frag} {tg:Expr} (it:Addr) (x:Str) (t:Tok) (ty:String) (hty:ty="str_ascii_iterator"∨ty="str_iterator"):Turn P w K tg (Its x) [it] it (fun i h=>h.IsStrIter it ty x t i) where
 mem:=by simp
 obj:=fun i h st b hb=>by
  have e:b=it:=by simpa using hb
  subst e
  obtain ⟨o,e,c,d⟩:=st
  exact ⟨o,e,fun v z=>by rw [d] at z; cases z⟩
 keep:=fun i h h' st k=>let ⟨o,ho,r⟩:=st; ⟨o,k it (by simp) o ho,r⟩
 item:=by
  intro X hP hw hK hc i pins s σ H E I hf st hg
  subst hP hw hK
  obtain ⟨f0,f1,f2,f3,f4,f5⟩:=hf it (by simp)
  have hh:X.A.handled=none:=I.ok.hd hc
  have W:Walks X.prog X.w X.A it [it] [it] x.cps.size (SignAt x) (fun i h=>h.IsStrIter it ty x t i):=by
   rcases hty with rfl | rfl
   ·exact Walks.strAscii hh it x t
   ·exact Walks.strWide hh it x t
  refine W.item i s _ _ hg st fun v h' tk hv st' kk=>?_
  obtain ⟨c,u,e,rfl⟩:=hv
  have I1:Inv X pins σ H {s with heap:=h',toks:=tk}:=I.turned (fun b o hb e=>kk b o (by simpa using hb) e) f0 f1 f3 f4 f5
  obtain ⟨o,eo,co,dd⟩:=id st'
  refine ⟨_,rfl,dM (s:={s with heap:=h',toks:=tk}) eo co dd (by rcases hty with rfl | rfl <;> decide) ⟨.str ⟨#[c]⟩,H,I1,⟨u,rfl⟩,⟨rfl,c,e,rfl⟩,st',fun b hb=>(hf b hb).1⟩⟩
 done:=by
  intro X hP hw hK hc i pins s σ H E I hf st hg
  subst hP hw hK
  obtain ⟨f0,f1,f2,f3,f4,f5⟩:=hf it (by simp)
  have hh:X.A.handled=none:=I.ok.hd hc
  have hn:x.cps[i]?=none:=by
   have:x.cps.size≤i:=hg
   simp [this]
  rcases hty with rfl | rfl
  ·exact wpAny_pyNext_ascii_end hh st hn fun h' eb=>⟨rfl,I.turned (t':=s.toks) (fun b o hb e=>eb b o hb e) f0 f1 f3 f4 f5⟩
  ·exact wpAny_pyNext_wide_end hh st hn fun h' eb=>⟨rfl,I.turned (t':=s.toks) (fun b o hb e=>eb b o hb e) f0 f1 f3 f4 f5⟩
 self:=fun _ _ _ _ _ st h=>by
  rcases hty with rfl | rfl
  ·exact wpAny_pyIter_striter_ascii st h
  ·exact wpAny_pyIter_striter_wide st h
def iStr (te:TE):TI:=fun σ H R=>te σ H fun x H1=>∃ z,x=.str z∧R (Its z) H1
theorem bW {tg l:Expr} {te:TE} (hl:PE X l te):PI X tg l (iStr te):=by
 intro pins s σ H R I h
 refine thn (hl pins s σ H _ I h) fun v s1 ⟨x,H1,I1,r1,z,e,q⟩=>?_
 subst e
 obtain ⟨t,rfl⟩:=r1
 refine wpAny_pyIter_strU ?_
 refine ⟨s1.heap.objs.size,[s1.heap.objs.size],_,Its z,H1,rfl,I1.kept (t':=s1.toks) fun b o e=>Heap.get?_push_of_some _ e,Z7 _ z t (strIterType z) ?_,⟨_,Heap.get?_push_size _ rfl,rfl,rfl⟩,fun b hb=>?_,q⟩
 ·unfold strIterType
  cases z.cps.all (·<128)
  ·exact .inr rfl
  ·exact .inl rfl
 ·rw [List.mem_singleton.mp hb]
  exact I1.fpOk (Nat.le_refl _) (I1.hok.fresh (Nat.le_refl _))
def Ite (K:PySem.W.Frag) (a:Addr):It:=
 ⟨fun i H=>∃ xs x,SqL K H a xs∧xs[i]?=some x,fun i H v H'=>∃ T x,H T=none∧v=.ref T∧H'=upd H T (.tup [.int i,x])∧∀ xs,SqL K H a xs->xs[i]?=some x,fun i H=>∃ xs,SqL K H a xs∧xs.length≤i⟩
theorem X6 {P:Program} {w:World} {K:PySem.W.Frag} {elts:List Expr} {k1} {tp:Pos} (a e it:Addr) (hei:e≠it):Turn P w K (.Tuple elts k1 tp) (Ite K a) [e,it] e (fun i h=>(∃ old,IsEnum h e it i old)∧h.IsListIter it a i) where
 mem:=by simp
 obj:=fun i h st b hb=>by
  obtain ⟨⟨old,he⟩,o,ho,_,hd⟩:=st
  rcases List.mem_cons.mp hb with z | z
  ·rw [z]; exact ⟨_,he,fun v z=>by cases z⟩
  ·rw [List.mem_singleton.mp z]; exact ⟨o,ho,fun v z=>by rw [hd] at z; cases z⟩
 keep:=fun i h h' st k=>by
  obtain ⟨⟨old,he⟩,hit⟩:=st
  exact ⟨⟨old,k e (by simp) _ he⟩,hit.at fun o q=>k it (by simp) o q⟩
 item:=by
  intro X hP hw hK hc i pins s σ H E I hf st hg
  subst hP hw hK
  obtain ⟨xs,x,hq,hx⟩:=hg
  obtain ⟨its,rv,p,hz⟩:=I.list hq
  obtain ⟨u,hu,ru⟩:=rv.get hx
  obtain ⟨⟨old,he⟩,hit⟩:=st
  refine wpAny_pyNext_enum_item he hit p.isList (x:=u) (by simpa using hu) hei fun h' ho hit' hT hsz kp=>⟨_,rfl,?_⟩
  refine wpAny_letOwnedTupleGo_enum ho fun h2 he2 sb=>?_
  have hT2:h2.get? s.heap.objs.size=some {cls:=.type "tuple",data:=.seq #[.int i s.toks,u]}:=(sb.2 _ (Nat.ne_of_gt (Heap.lt_size he))).trans hT
  have hfree:H s.heap.objs.size=none:=I.hok.fresh (Nat.le_refl _)
  have hilt:it<s.heap.objs.size:=by obtain ⟨_,z,_⟩:=hit; exact Heap.lt_size z
  have I1:Inv X pins σ H {s with heap:=h2,toks:=s.toks+1}:=I.turns (fp:=[e,it]) hf fun b o hb q=>(sb.2 b fun z=>hb (by simp [z])).trans (kp b o (fun z=>hb (by simp [z])) (fun z=>hb (by simp [z])) q)
  have I2:Inv X pins σ (upd H s.heap.objs.size (.tup [.int i,x])) {s with heap:=h2,toks:=s.toks+1}:=I1.track (I.fpOk (Nat.le_refl _) hfree) ⟨by show 2≤sizeLine; decide,[.int i s.toks,u],.cons ⟨_,rfl⟩ (.cons ru .nil),_,hT2,rfl,_,rfl⟩
  refine ⟨.ref s.heap.objs.size,_,I2,rfl,⟨s.heap.objs.size,x,hfree,rfl,rfl,fun ys hy=>by rw [I.list_inj hy hq]; exact hx⟩,⟨⟨u,by simpa using he2⟩,hit'.at fun o q=>(sb.2 it hei.symm).trans q⟩,fun b hb=>?_⟩
  rw [Ae]
  ·exact (hf b hb).1
  ·rcases List.mem_cons.mp hb with z | z
   ·rw [z]; exact Nat.ne_of_lt (Heap.lt_size he)
   ·rw [List.mem_singleton.mp z]; exact Nat.ne_of_lt hilt
 done:=by
  intro X hP hw hK hc i pins s σ H E I hf st hg
  subst hP hw hK
  obtain ⟨xs,hq,hx⟩:=hg
  obtain ⟨its,rv,p,hz⟩:=I.list hq
  obtain ⟨⟨old,he⟩,hit⟩:=st
  have hl:=rv.length
  exact wpAny_pyNext_enum_end (I.ok.hd hc) he hit p.isList (by simp; omega) fun h' eb=>⟨rfl,I.turns (fp:=[e,it]) (t':=s.toks) hf fun b o hb q=>eb b o (fun z=>hb (by simp [z])) q⟩
 self:=fun _ _ _ _ _ st h=>by
  obtain ⟨⟨old,he⟩,_⟩:=st
  exact wpAny_pyIter_enum he h
def iEnum (K:PySem.W.Frag) (ta:TA):TI:=fun σ H R=>ta σ H fun vs H1=>∃ a,vs=[.ref a]∧(∃ xs,SqL K H1 a xs)∧R (Ite K a) H1
theorem gB {a:Expr} {ta:TA} {p pos tp:Pos} {elts:List Expr} {k1} (hg:Gl X "enumerate") (hm:X.mg "enumerate"=none) (ha:PA X [a] ta) (hs:starEach [a] X.env=[(false,eval a X.env)]:=by rfl):PI X (.Tuple elts k1 tp) (.Call (.Name "enumerate" p) [a] [] pos) (iEnum X.K ta):=by
 intro pins s σ H R I h
 refine Call_ (G3 I hg hm boot_enumerate (PyProof.Rows.callWith_type1 (thn (ha pos pins s σ H _ I h) fun us s1 ⟨vs,H1,I1,r1,q1⟩=>?_) hs rfl))
 obtain ⟨b,e,⟨xs,hq⟩,q⟩:=q1
 subst e
 obtain ⟨u,rfl,ru⟩:=D3 r1
 cases ru
 obtain ⟨its,rv,pl,hz⟩:=I1.list hq
 refine call_enumerate_list pl.isList fun h' he hit hsz kp=>?_
 refine wpAny_pyIter_enum he ?_
 have hfree:∀ c,s1.heap.objs.size≤c->H1 c=none:=fun c hc=>I1.hok.fresh hc
 refine ⟨s1.heap.objs.size+1,[s1.heap.objs.size+1,s1.heap.objs.size],_,_,H1,rfl,I1.kept (t':=s1.toks) kp,X6 b _ _ (Nat.ne_of_gt (Nat.lt_succ_self _)),⟨⟨_,by simpa using he⟩,hit⟩,fun c hc=>?_,q⟩
 rcases List.mem_cons.mp hc with z | z
 ·rw [z]; exact I1.fpOk (Nat.le_succ _) (hfree _ (Nat.le_succ _))
 ·rw [List.mem_singleton.mp z]; exact I1.fpOk (Nat.le_refl _) (hfree _ (Nat.le_refl _))
theorem Wp (hc:X.calm=true):D4 X (.type "list") (fun vs H Q=>∃ d kvs,vs=[.ref d]∧Rd H d (.dK kvs)∧∀ l,H l=none->Q (.ref l) (upd H l (.lst (kvs.map fun kv=>kV kv.1)))):=by
 intro pins s σ H xs us Q I r h
 obtain ⟨d,kvs,rfl,hd,q⟩:=h
 obtain ⟨u,rfl,ru⟩:=D3 r
 cases ru
 obtain ⟨hz,hs,vs,kv,dd⟩:=Ip I.hok hd
 obtain ⟨ep,hat⟩:=dd.dictAt
 have hl:=kv.length
 refine PySem.W.kdl_call (PySem.W.kdl_dict (knd:=A6 X.prog X.w) (kvs:=vs) (ep:=ep) hs) (I.ok.hd hc) hat (by rw [← hl]; exact hz) fun h' tk acc c kp hD ha=>?_
 have hv:Vals (kvs.map fun kv=>kV kv.1) acc.toList:=Ku (P:=X.prog) (w:=X.w) kv (by rw [Array.length_toList]; exact ha.1) fun j v e=>by
  obtain ⟨k,x,e1,e2⟩:=ha.2 j v (by rw [← Array.getElem?_toList]; exact e)
  exact ⟨k,x,e1,e2⟩
 refine ⟨.ref s.heap.objs.size,_,I.laid (o:=.lst (kvs.map fun kv=>kV kv.1)) (t':=tk) kp (Nat.le_refl _) ⟨by rw [List.length_map]; exact hz,acc.toList,c,hv,by rw [Array.toArray_toList]; exact hD⟩,rfl,q _ (I.hok.fresh (Nat.le_refl _))⟩
end
end L2

namespace L2
open PySem PySem.Spec PyProof.Rows
section
variable {X:Cx} {pins:List (Addr×Obj)} {σ:St} {H:Hp} {s:Shared}
theorem Inv.retrack {d:Addr} {u u':HO} (I:Inv X pins σ H s) (e:H d=some u) (h1:∀ xs,u≠.tup xs) (h2:∀ b,u≠.own b) (h3:∀ ob v,X.H₀ d≠some (.frz ob v)) (h4:∀ ps,u≠.tbl ps) (new:B6 X.prog X.w (upd H d u') s.heap d u'):Inv X pins σ (upd H d u') s:=by
 have nn:∀ b,H b=none->b≠d:=fun b n z=>by rw [z,e] at n; cases n
 refine ⟨I.ok,I.os,I.bare,⟨I.base.keep,I.base.slot,fun b ob q n hx=>?_,I.base.there,fun b xs q=>?_,fun b ob xs q=>?_,fun b ps q=>?_⟩,I.loc,I.cell,?_,fun x c q=>?_,fun p hp=>?_,fun b ob q=>?_,I.len⟩
 ·have z:=I.base.free b ob q n hx
  rw [Ae (nn b z)]; exact z
 ·have z:=I.base.tups b xs q
  rw [Ae fun w=>by rw [w,e] at z; exact h1 xs (Option.some.inj z)]; exact z
 ·have z:=I.base.frzs b ob xs q
  rw [Ae fun w=>by rw [w] at q; exact h3 _ _ q]; exact z
 ·obtain ⟨m,z⟩:=I.base.tbls b ps q
  exact ⟨m,by rw [Ae fun w=>by rw [w,e] at z; exact h4 _ (Option.some.inj z)]; exact z⟩
 ·rw [Ae (nn _ I.free)]; exact I.free
 ·have z:=I.freeC x c q
  rw [Ae (nn _ z)]; exact z
 ·obtain ⟨a1,a2,a3,a4,a5⟩:=I.pin p hp
  exact ⟨a1,by rw [Ae (nn _ a2)]; exact a2,a3,a4,a5⟩
 ·by_cases hb:b=d
  ·subst hb
   rw [Ag] at q; cases q
   exact new
  ·rw [Ae hb] at q
   exact (I.hok b ob q).stay (fun _ _ _ z=>z) (fun c z=>by rw [Ae fun w=>by rw [w,e] at z; exact h2 _ (Option.some.inj z)]; exact z) fun c xs z=>by rw [Ae fun w=>by rw [w,e] at z; exact h1 _ (Option.some.inj z)]; exact z
theorem eO {P:Program} {w:World} {H H':Hp} {h:Heap} {d:Addr} {kvs:List (Key×V)} (x:B6 P w H h d (.dK kvs)):B6 P w H' h d (.dK kvs):=x
theorem Inv.noFrz {d:Addr} {kvs:List (Key×V)} (I:Inv X pins σ H s) (e:H d=some (.dK kvs)):∀ ob v,X.H₀ d≠some (.frz ob v):=fun ob v q=>by
 have:=I.base.frzs d ob v q
 rw [e] at this
 cases this
theorem Inv.freeze {d:Addr} {kvs:List (Key×V)} {o:Obj} (I:Inv X pins σ H s) (e:H d=some (.dK kvs)) (ho:s.heap.get? d=some o):Inv X pins σ (upd H d (.frz o (.dK kvs))) s:=
 I.retrack e (fun xs z=>by cases z) (fun b z=>by cases z) (I.noFrz e) (fun ps z=>by cases z) ⟨ho,eO (I.hok d _ e)⟩
theorem Inv.thaw {d:Addr} {kvs:List (Key×V)} {o:Obj} (I:Inv X pins σ H s) (e:H d=some (.frz o (.dK kvs))) (h3:∀ ob v,X.H₀ d≠some (.frz ob v)):Inv X pins σ (upd H d (.dK kvs)) s:=
 I.retrack e (fun xs z=>by cases z) (fun b z=>by cases z) h3 (fun ps z=>by cases z) (eO (I.hok d _ e).2)
def tThaw (t:TE):TE:=fun σ H Q=>∃ d kvs,H d=some (.dK kvs)∧t σ H fun v H1=>∃ o,H1 d=some (.frz o (.dK kvs))∧Q v (upd H1 d (.dK kvs))
theorem gC {e:Expr} {t:TE} (h:PE X e t):PE X e (tThaw t):=by
 intro pins s σ H Q I hq
 obtain ⟨d,kvs,hd,hq⟩:=hq
 refine thn (h pins s σ H _ I hq) fun u s1 ⟨v,H1,I1,r,o,e1,q⟩=>?_
 exact ⟨v,_,I1.thaw e1 (I.noFrz hd),r,q⟩
theorem G5 {d:Addr} {o:Obj} {es:Array DictEntry} {ep:Nat} {kvs:List (Key×V)} (I:Inv X pins σ H s) (e:H d=some (.frz o (.dK kvs))) (hd:o.data=.dict es ep):∃ vs,KV kvs vs∧s.heap.DictAt (A6 X.prog X.w) d vs ep:=by
 obtain ⟨ho,_,_,vs,kv,o',es',ep',ho',r1,r2,r⟩:=I.hok d _ e
 have:o'=o:=Option.some.inj (ho'.symm.trans ho)
 subst this
 rw [hd] at r2
 cases r2
 exact ⟨vs,kv,o',es,ho,r1,hd,r⟩
theorem Sj {P:Program} {w:World} {k:Key} {v:Value} (h:(A6 P w).is k v=true):RelV (kV k) v:=by
 rcases Bt (show Lg k v=true from h) with ⟨i,t',rfl,rfl⟩ | ⟨x,t',rfl,rfl⟩
 ·exact ⟨t',rfl⟩
 ·exact ⟨t',rfl⟩
theorem V8 {kvs:List (Key×V)} {vs:List (Key×Value)}:KV kvs vs->∀ {i:Nat} {k:Key} {v:V},kvs[i]?=some (k,v)->∃ u,vs[i]?=some (k,u)∧RelV v u:=by
 intro r
 induction r with
 | nil=>intro i k v e; simp at e
 | @cons a b l1 l2 h t ih=>
   intro i k v e
   cases i with
   | zero=>
     obtain ⟨k',u⟩:=b
     have e':a=(k,v):=by simpa using e
     subst e'
     have hk:k=k':=h.1
     subst hk
     exact ⟨u,rfl,h.2⟩
   | succ i=>
     obtain ⟨u,h1,h2⟩:=ih (i:=i) (by simpa using e)
     exact ⟨u,by simpa using h1,h2⟩
end
structure FunD (K:PySem.W.Frag) (x qual:Str) (st:Stmt) (f:Addr) (fd:FuncData) (ds:List Value):Prop where
 ex:∃ (oc:Value) (od:Option Addr) (T:Addr) (kV doc pm:Value) (an:Option Addr) (cdv ct:Value) (osl:Array (Option Value)) (ot:Value) (tod:Option Addr) (n:Nat) (tsl:Array (Option Value)),
  fd=PySem.W.fnOf x qual (defArgs st) (defBody st) (defScope st) (.ref T) kV doc pm an cdv ct∧K.lookup f=some ⟨oc,od,.func fd,osl⟩∧PySem.W.codeIn K cdv qual=true∧K.lookup T=some ⟨ot,tod,.seq ds.toArray n,tsl⟩
 kp:PySem.W.keepIn K (.ref f)=true
section
variable {P:Program} {w:World} {K:PySem.W.Frag} {mg:Str->Option Value} {base:Heap}
theorem FunD.ok {x qual:Str} {st:Stmt} {f:Addr} {fd:FuncData} {ds:List Value} {N ps:List Str} {k:Nat} {sp:Sp} (F:FunD K x qual st f fd ds) (S:Al N ps (defScope st)) (len:∀ vs H Q E,sp vs H Q E->vs.length=ps.length)
  (hbody:∀ (cdv:Value) (A:Around) (outer:List Env) (s:Shared) (H:Hp) (vs:List V) (Q:VK) (E:XK),Room k (A.deeper (envOfC qual (defScope st) s.heap.objs.size f cdv))->sp vs H Q E ->
    ∃ t,PSs (cxOf CX0 P w K mg base N qual (defScope st) f cdv A outer s H E).nox (defBody st) t∧t {nx:=fun _ H'=>Q .non H',rt:=Q} (C9 N vs) H):FnOk P w K mg base CX0 (k+1) f fd ps sp:=by
 obtain ⟨oc,od,T,kV,doc,pm,an,cdv,ct,osl,ot,tod,n,tsl,rfl,lk,hcd,lt⟩:=F.ex
 refine Xr lk hcd S len fun A outer s H vs Q E hr hsp=>?_
 obtain ⟨t,h,q⟩:=hbody cdv A outer s H vs Q E hr hsp
 exact ⟨t,h.nox,q⟩
theorem Sn {x qual:Str} {st:Stmt} {f T:Addr} {oc:Value} {od an:Option Addr} {osl:Array (Option Value)} {kV doc pm cdv ct:Value} {ot:Value} {tod:Option Addr} {n:Nat} {tsl:Array (Option Value)} {ds:List Value}
  (l:K.lookup f=some ⟨oc,od,.func (PySem.W.fnOf x qual (defArgs st) (defBody st) (defScope st) (.ref T) kV doc pm an cdv ct),osl⟩) (c:PySem.W.codeIn K cdv qual=true) (k:PySem.W.keepIn K (.ref f)=true) (lt:K.lookup T=some ⟨ot,tod,.seq ds.toArray n,tsl⟩) :
  FunD K x qual st f (PySem.W.fnOf x qual (defArgs st) (defBody st) (defScope st) (.ref T) kV doc pm an cdv ct) ds:=⟨⟨oc,od,T,kV,doc,pm,an,cdv,ct,osl,ot,tod,n,tsl,rfl,l,c,lt⟩,k⟩
theorem FunD.binds {x qual:Str} {st:Stmt} {f:Addr} {fd:FuncData} {ds more:List Value} {ps:List Str} (F:FunD K x qual st f fd ds)
  (h:∀ (T:Addr) (kV doc pm:Value) (an:Option Addr) (cdv ct:Value) (us:List Value),(us++more).length=ps.length->∃ k:Option (Array Value)->Sem (List (Str×Value)),
    bindArgs (PySem.W.fnOf x qual (defArgs st) (defBody st) (defScope st) (.ref T) kV doc pm an cdv ct) ⟨us,[]⟩=seqItems? (.ref T)>>=k∧k (some ds.toArray)=pure (ps.zip (us++more))):B8 K fd ps more:=by
 obtain ⟨oc,od,T,kV,doc,pm,an,cdv,ct,osl,ot,tod,n,tsl,rfl,lk,hcd,lt⟩:=F.ex
 intro s us KX hl
 obtain ⟨k,h1,h2⟩:=h T kV doc pm an cdv ct us hl
 exact BindsTo.of_defaults rfl (KX _ _ lt) rfl h1 h2
end
end L2

namespace L2
open PySem PySem.Spec PyProof.Rows
section
variable {X:Cx} {pins:List (Addr×Obj)} {σ:St} {H:Hp}
theorem FpOk.turned {s:Shared} {h':Heap} {t':Nat} {it:Addr} (f:FpOk X pins H it) (I:Inv X pins σ H s) (k:∀ b o,b≠it->s.heap.get? b=some o->h'.get? b=some o):Inv X pins σ H {s with heap:=h',toks:=t'}:=by
 obtain ⟨g0,g1,_,g3,g4,g5⟩:=f
 exact I.turned k g0 g1 g3 g4 g5
def iQ (zs:List (V×List Int)) (i n:Nat):Prop:=i<n∧∀ j y z,j<n->zs[j]?=some y->zs[i]?=some z->HT.A7 y.2 z.2=false
theorem gZ {a b c:List Int} (h1:HT.A7 a b=true) (h2:HT.A7 c b=false):HT.A7 c a=false:=by
 cases e:HT.A7 c a with
 | false=>rfl
 | true=>
   have:=Oi e h1
   rw [h2] at this
   cases this
theorem Y3 {kk:Nat} {g a q d S It:Addr} {fd:FuncData} {ps:List Str} {sp:Sp} {A:Around} {R:Result->Shared->Prop} {zs:List (V×List Int)} {kvs:List (Key×V)} {o:Obj} {es:Array DictEntry} {ep:Nat}
  (hh:A.handled=none) (hu:A.in1.units<cLine) (F:FnOk X.prog X.w X.K X.mg X.base CX0 kk g fd ps sp) (hr:Room kk A.in1) (hA:A.in1.frames=X.A.frames) (hb:B8 X.K fd ps []) (hdata:o.data=.dict es ep) (hzs:zs.map (·.1)=kvs.map fun kv=>kV kv.1)
  (hsp:∀ z∈zs,∀ (H':Hp) (Q':VK),Same H H'->(∀ t,H' t=none->Q' (.ref t) (upd H' t (.tup (z.2.map V.int))))->sp [.ref a,z.1] H' Q' E0)
  (hfz:H d=some (.frz o (.dK kvs))) (hq:H q=some (.met g a)) (hIS:It≠S)
  (hR:∀ (i:Nat) (z:V×List Int) (u:Value) (H':Hp) (s':Shared),zs[i]?=some z->RelV z.1 u->iQ zs i zs.length->Same H H'->Inv X pins σ H' s'->R (.ok (.ret u)) s') :
  ∀ (r j i:Nat) (s:Shared) (H':Hp) (vb:Value) (tb:Addr) (c:Nat) (z:V×List Int),zs.length - (j+1)=r->j+1≤zs.length->Same H H'->Inv X pins σ H' s->FpOk X pins H' It->FpOk X pins H' S ->
   s.heap.IsKeyIter It d (j+1) kvs.length ep->s.heap.get? S=some (seqObj "list" #[vb,.ref tb] c)->zs[i]?=some z->RelV z.1 vb->H' tb=some (.tup (z.2.map V.int))->iQ zs i (j+1) ->
   codeAny (model X.prog X.w) A (.builtin "min.loop" ⟨[.ref It,.ref q,.ref S],[]⟩) R s:=by
 have hname:(toString "min"++toString ".loop":String)="min.loop":=by decide
 have hzl:zs.length=kvs.length:=by have:=congrArg List.length hzs; rw [List.length_map,List.length_map] at this; exact this
 intro r
 induction r with
 | zero=>
   intro j i s H' vb tb c z hr0 hj S1 I fI fS hit hS hz rz ht hL
   have hin:j+1=zs.length:=by omega
   obtain ⟨vs,kv,hat⟩:=G5 I (S1 _ _ hfz) hdata
   have hl:=kv.length
   refine codeAny_builtin PySem.F.entry_min_loop ?_
   rw [Around.under_plainId PySem.F.plain_min_loop _]
   show wpAny _ A.in1 (seqItems? (.ref S)>>=_) _ _ _
   refine wpAny_bind (wpAny_seqItems hS rfl ?_)
   show wpAny _ A.in1 (tryCatch (pyNext (.ref It)) _>>=_) _ _ _
   refine wpAny_bind (wpAny_tryCatch (wpAny_pyNext_dict_end (knd:=A6 X.prog X.w) (A:=A.in1) hh (by rw [← hl]; exact hit) hat (by simp; omega) fun h' eb=>?_))
   have I1:Inv X pins σ H' {s with heap:=h'}:=fI.turned (t':=s.toks) I fun b u hb e=>eb b u hb e
   have hS':=eb S _ (Ne.symm hIS) hS
   have s1:=Heap.SameBut.update h' S (Obj.mapSeq fun _=>(#[]:Array Value))
   show wpAny _ A.in1 (updateSeq S (fun _=>#[])>>=_) _ _ _
   refine wpAny_bind ?_
   refine wpAny_updateSeq hS' rfl (wpAny_bind (wpAny_letGo (wpAny_pure ?_)))
   exact hR i z vb H' _ hz rz (by rw [← hin]; exact hL) S1 (fS.turned (s:={s with heap:=h'}) (t':=s.toks) I1 fun b u hb e=>(s1.2 b hb).trans e)
 | succ r ih=>
   intro j i s H' vb tb c z hr0 hj S1 I fI fS hit hS hz rz ht hL
   have hlt:j+1<zs.length:=by omega
   obtain ⟨vs,kv,hat⟩:=G5 I (S1 _ _ hfz) hdata
   have hl:=kv.length
   have hkj:j+1<kvs.length:=by omega
   obtain ⟨u,hu1,ru⟩:=V8 kv (i:=j+1) (k:=kvs[j+1].1) (v:=kvs[j+1].2) (by simp [hkj])
   refine codeAny_builtin PySem.F.entry_min_loop ?_
   rw [Around.under_plainId PySem.F.plain_min_loop _]
   show wpAny _ A.in1 (seqItems? (.ref S)>>=_) _ _ _
   refine wpAny_bind (wpAny_seqItems hS rfl ?_)
   show wpAny _ A.in1 (tryCatch (pyNext (.ref It)) _>>=_) _ _ _
   refine wpAny_bind (wpAny_tryCatch (wpAny_pyNext_dict_item (knd:=A6 X.prog X.w) (A:=A.in1) (by rw [← hl]; exact hit) hat hu1 fun key h' hkey hit' sb=>?_))
   have I1:Inv X pins σ H' {s with heap:=h'}:=fI.turned (t':=s.toks) I fun b u hb e=>(sb.2 b hb).trans e
   have hS':h'.get? S=some (seqObj "list" #[vb,.ref tb] c):=(sb.2 S (Ne.symm hIS)).trans hS
   obtain ⟨oI,hoI,hoc,hod⟩:=id hit'
   have hzj:zs[j+1]?=some zs[j+1]:=List.getElem?_eq_getElem hlt
   have ek:zs[j+1].1=kV kvs[j+1].1:=by
    have h1:(zs.map (·.1))[j+1]?=some zs[j+1].1:=by rw [List.getElem?_map,hzj]; rfl
    have h2:(kvs.map fun kv=>kV kv.1)[j+1]?=some (kV kvs[j+1].1):=by rw [List.getElem?_map,List.getElem?_eq_getElem hkj]; rfl
    rw [hzs,h2] at h1
    exact (Option.some.inj h1).symm
   have rk:RelV zs[j+1].1 key:=by rw [ek]; exact Sj hkey
   have hzm:zs[j+1]∈zs:=List.getElem_mem _
   generalize zs[j+1]=y at hzj rk hzm
   have nI:∀ v,oI.data≠.cell v:=fun v e=>by rw [hod] at e; cases e
   obtain ⟨fI0,fI1,fI2,fI3,fI4,fI5⟩:=id fI
   obtain ⟨fS0,fS1,fS2,fS3,fS4,fS5⟩:=id fS
   have I2:Inv X [(It,oI),(S,seqObj "list" #[vb,.ref tb] c)] σ H' {s with heap:=h'}:=I1.pins_of fun p hp=>by
    rcases List.mem_cons.mp hp with rfl | hp
    ·exact ⟨hoI,fI0,fI1,fI2,nI⟩
    ·rw [List.mem_singleton.mp hp]; exact ⟨hS',fS0,fS1,fS2,Ds⟩
   have I2:Inv X (pins++[(It,oI),(S,seqObj "list" #[vb,.ref tb] c)]) σ H' {s with heap:=h'}:=I1.pins_of fun p hp=>by
    rcases List.mem_append.mp hp with hp | hp
    ·exact I1.pin p (List.mem_append_right _ hp)
    ·exact I2.pin p (List.mem_append_right _ hp)
   show wpAny _ A.in1 (tryCatch (holding [key] (call (.ref q) [key])) _>>=_) _ _ _
   refine wpAny_bind (wpAny_tryCatch (wpAny_holding (wpAny_mono (Jb (CX:=CX0) (Q:=fun v H3=>∃ t,v=.ref t∧H' t=none∧H3=upd H' t (.tup (y.2.map V.int))) (E:=fun _ _=>False) F hr hA hb I2 (S1 _ _ hq) rk (hsp y hzm H' _ S1 fun t ht=>⟨t,rfl,ht,rfl⟩)) (fun k' s3 hk3=>?_) fun _ _ f=>f.elim)))
   obtain ⟨v,H3,I3,r3,t,rfl,ht3,rfl⟩:=hk3
   cases r3
   have S3:Same H' (upd H' t (.tup (y.2.map V.int))):=fun b o e=>by rw [Ae (Aj e ht3)]; exact e
   have htt:(upd H' t (.tup (y.2.map V.int))) t=some (.tup (y.2.map V.int)):=Ag
   obtain ⟨pI,nI3,_,_,_⟩:=I3.pin (It,oI) (by simp)
   obtain ⟨pS,nS3,_,_,_⟩:=I3.pin (S,seqObj "list" #[vb,.ref tb] c) (by simp)
   have I4:=I3.unpinned
   have fI':=fI.heap nI3
   have fS':=fS.heap nS3
   have htb:=S3 _ _ ht
   generalize upd H' t (.tup (y.2.map V.int))=H3 at *
   obtain ⟨its,r1,p1,_⟩:=I4.tuple (SqT.of htt)
   obtain ⟨its2,r2,p2,_⟩:=I4.tuple (SqT.of htb)
   have hit3:s3.heap.IsKeyIter It d (j+1+1) kvs.length ep:=⟨oI,pI,hoc,by rw [hod,hl]⟩
   show wpAny _ A.in1 (tryCatch (holding [key,.ref t] (richCompare .Lt (.ref t) (.ref tb)>>=_)) _>>=_) _ _ _
   refine wpAny_bind (wpAny_tryCatch (wpAny_holding (wpAny_bind ?_)))
   refine (HT.Og (prog:=X.prog) (w:=X.w) (A:=A.in1) p1 p2 (Fm r1) (Fm r2) hu ?_:wpAny (model X.prog X.w) A.in1 (compareOp .Lt (.ref t) (.ref tb)) _ _ s3)
   refine wpAny_bind (wpAny_holding (wpAny_truthy_bool ?_))
   refine wpAny_bind (wpAny_letGo (wpAny_pure ?_))
   cases hb':HT.A7 y.2 z.2 with
   | true=>
     have s1:=Heap.SameBut.update s3.heap S (Obj.mapSeq fun _=>#[key,.ref t])
     obtain ⟨c2,hc2⟩:∃ c2,(s3.heap.update S (Obj.mapSeq fun _=>#[key,.ref t])).get? S=some (seqObj "list" #[key,.ref t] c2):=⟨_,get?_update_seq pS fun _=>#[key,.ref t]⟩
     simp only [if_true]
     refine wpAny_bind ?_
     refine wpAny_updateSeq pS rfl (wpAny_bind (wpAny_letGo ?_))
     rw [hname]
     have I5:Inv X pins σ H3 {s3 with heap:=s3.heap.update S (Obj.mapSeq fun _=>#[key,.ref t])}:=fS'.turned (t':=s3.toks) I4 fun b u hb e=>(s1.2 b hb).trans e
     refine wpAny_pure ⟨plainId_quiet PySem.F.plain_min_loop _,ih (j+1) (j+1) _ H3 key t c2 y (by omega) hlt (S1.trans S3) I5 fI' fS' ⟨oI,(s1.2 It hIS).trans pI,hoc,by rw [hod,hl]⟩ hc2 hzj rk htt ⟨Nat.lt_succ_self _,fun j' y' z' hj' hy' hz'=>?_⟩⟩
     rw [hzj] at hz'
     cases hz'
     by_cases e:j'=j+1
     ·subst e
      rw [hzj] at hy'
      cases hy'
      exact H0 _
     ·exact gZ hb' (hL.2 j' y' z (by omega) hy' hz)
   | false=>
     simp only [Bool.false_eq_true,if_false]
     refine wpAny_bind (wpAny_letGo ?_)
     rw [hname]
     refine wpAny_pure ⟨plainId_quiet PySem.F.plain_min_loop _,ih (j+1) i _ H3 vb tb c z (by omega) hlt (S1.trans S3) I4 fI' fS' hit3 pS hz rz htb ⟨Nat.lt_succ_of_lt hL.1,fun j' y' z' hj' hy' hz'=>?_⟩⟩
     rw [hz] at hz'
     cases hz'
     by_cases e:j'=j+1
     ·subst e
      rw [hzj] at hy'
      cases hy'
      exact hb'
     ·exact hL.2 j' y' z (by omega) hy' hz
def Xf (g:Addr) (sp:Sp) (x f:V) (H:Hp) (Q:VK):Prop:=∃ (q a d:Addr) (kvs:List (Key×V)) (zs:List (V×List Int)),x=.ref d∧f=.ref q∧H q=some (.met g a)∧H d=some (.dK kvs)∧zs.map (·.1)=(kvs.map fun kv=>kV kv.1)∧zs≠[] ∧
 (∀ (o:Obj),∀ z∈zs,∀ (H':Hp) (Q':VK),Same (upd H d (.frz o (.dK kvs))) H'->(∀ t,H' t=none->Q' (.ref t) (upd H' t (.tup (z.2.map V.int))))->sp [.ref a,z.1] H' Q' E0) ∧
 ∀ z∈zs,(∀ y∈zs,HT.A7 y.2 z.2=false)->∀ H',Same H H'->Q z.1 H'
def tMinK (g:Addr) (sp:Sp) (ti tk:TE):TE:=fun σ H Q=>ti σ H fun x H1=>tk σ H1 fun f H2=>Xf g sp x f H2 Q
theorem Y4 {kk:Nat} {g:Addr} {fd:FuncData} {ps:List Str} {sp:Sp} {x f:V} {u v:Value} {Q:VK} {s:Shared} (hc:X.calm=true) (F:FnOk X.prog X.w X.K X.mg X.base CX0 kk g fd ps sp) (hr:Room (kk+2) X.A) (hb:B8 X.K fd ps []) (I:Inv X pins σ H s) (rx:RelV x u) (rf:RelV f v) (h:Xf g sp x f H Q) :
  wpAny (model X.prog X.w) X.A (call (.builtin "min") [u] [(Str.ofString "key",v)]) (EP X pins σ Q) X.xe s:=by
 obtain ⟨q,a,d,kvs,zs,rfl,rfl,hq,hd,hzs,hne,hsp,hQ⟩:=h
 cases rf
 cases rx
 have hname:(toString "min"++toString ".loop":String)="min.loop":=by decide
 have hh:X.A.handled=none:=I.ok.hd hc
 have hzl:zs.length=kvs.length:=by have:=congrArg List.length hzs; rw [List.length_map,List.length_map] at this; exact this
 have hpos:0<zs.length:=List.length_pos_iff.mpr hne
 have hu:X.A.in1.units<cLine:=Nat.lt_of_succ_lt (Dj hr.in1)
 obtain ⟨hz,hsm,vs,kv,hD⟩:kvs.length≤sizeLine∧(d==sysModules)=false∧∃ vs,KV kvs vs∧s.heap.DictOf (A6 X.prog X.w) d vs:=I.hok d _ hd
 obtain ⟨o,es,ep,ho,hcl,hdata,hrest⟩:=hD
 have hl:=kv.length
 have If:=I.freeze hd ho
 have hfz:(upd H d (.frz o (.dK kvs))) d=some (.frz o (.dK kvs)):=Ag
 have hqd:q≠d:=Il hq hd (by intro z; cases z)
 have hqf:(upd H d (.frz o (.dK kvs))) q=some (.met g a):=by rw [Ae hqd]; exact hq
 have hnf:=I.noFrz hd
 refine kmk_tree PySem.F.kind_min PySem.F.plain_min PySem.F.entry_min (kmk_min_key _ _) ?_
 show wpAny _ X.A.in1 (Builtin.Builtins.bindParams "min" ["key","default"] 0 ⟨[],[(Str.ofString "key",.ref q)]⟩>>=_) _ _ s
 refine wpAny_bind (wpAny_of_eq (show Builtin.Builtins.bindParams "min" ["key","default"] 0 ⟨[],[(Str.ofString "key",.ref q)]⟩=pure [some (.ref q),none] from rfl) ?_)
 refine wpAny_bind (wpAny_pure ?_)
 obtain ⟨vs',kv',hat⟩:=G5 If hfz hdata
 have hl':=kv'.length
 refine wpAny_bind (wpAny_pyIter_dict (knd:=A6 X.prog X.w) hsm hat ?_)
 refine wpAny_bind (wpAny_newList ?_ (Nat.zero_le _))
 rw [hname]
 have gI0:((s.heap.push {cls:=.type "dict_keyiterator",data:=.fields #[.ref d,.int 0 0,.int vs'.length 0,.int ep 0]}).push (seqObj "list" #[] 0)).get? s.heap.objs.size=some {cls:=.type "dict_keyiterator",data:=.fields #[.ref d,.int 0 0,.int vs'.length 0,.int ep 0]}:=
  Heap.get?_push_of_some _ (Heap.get?_push_size _ rfl)
 have hS1:(s.heap.push {cls:=.type "dict_keyiterator",data:=.fields #[.ref d,.int 0 0,.int vs'.length 0,.int ep 0]}).objs.size=s.heap.objs.size+1:=size_push' ..
 have gS0:((s.heap.push {cls:=.type "dict_keyiterator",data:=.fields #[.ref d,.int 0 0,.int vs'.length 0,.int ep 0]}).push (seqObj "list" #[] 0)).get? (s.heap.objs.size+1)=some (seqObj "list" #[] 0):=by
  rw [← hS1]; exact Heap.get?_push_size _ rfl
 have hIS:s.heap.objs.size≠s.heap.objs.size+1:=Nat.ne_of_lt (Nat.lt_succ_self _)
 have kp0:∀ b u,s.heap.get? b=some u->((s.heap.push {cls:=.type "dict_keyiterator",data:=.fields #[.ref d,.int 0 0,.int vs'.length 0,.int ep 0]}).push (seqObj "list" #[] 0)).get? b=some u:=fun b u e=>Heap.get?_push_of_some _ (Heap.get?_push_of_some _ e)
 have fI:FpOk X pins (upd H d (.frz o (.dK kvs))) s.heap.objs.size:=If.fpOk (Nat.le_refl _) (If.hok.fresh (Nat.le_refl _))
 have fS:FpOk X pins (upd H d (.frz o (.dK kvs))) (s.heap.objs.size+1):=If.fpOk (Nat.le_succ _) (If.hok.fresh (Nat.le_succ _))
 have I0:=If.kept (t':=s.toks) kp0
 have hit0:((s.heap.push {cls:=.type "dict_keyiterator",data:=.fields #[.ref d,.int 0 0,.int vs'.length 0,.int ep 0]}).push (seqObj "list" #[] 0)).IsKeyIter s.heap.objs.size d 0 vs'.length ep:=⟨_,gI0,rfl,rfl⟩
 have hat0:=(hat.push {cls:=.type "dict_keyiterator",data:=.fields #[.ref d,.int 0 0,.int vs'.length 0,.int ep 0]}).push (seqObj "list" #[] 0)
 rw [hS1]
 generalize (s.heap.push {cls:=.type "dict_keyiterator",data:=.fields #[.ref d,.int 0 0,.int vs'.length 0,.int ep 0]}).push (seqObj "list" #[] 0)=h0 at *
 generalize s.heap.objs.size=It at *
 generalize It+1=S at *
 refine wpAny_pure ⟨plainId_quiet PySem.F.plain_min_loop _,?_⟩
 refine codeAny_builtin PySem.F.entry_min_loop ?_
 rw [Around.under_plainId PySem.F.plain_min_loop _]
 show wpAny _ X.A.in1 (seqItems? (.ref _)>>=_) _ _ _
 refine wpAny_bind (wpAny_seqItems gS0 rfl ?_)
 show wpAny _ X.A.in1 (tryCatch (pyNext (.ref It)) _>>=_) _ _ _
 have hk0:0<kvs.length:=by omega
 obtain ⟨u,hu1,ru⟩:=V8 kv' (i:=0) (k:=kvs[0].1) (v:=kvs[0].2) (by simp [hk0])
 refine wpAny_bind (wpAny_tryCatch (wpAny_pyNext_dict_item (knd:=A6 X.prog X.w) (A:=X.A.in1) hit0 hat0 hu1 fun key h' hkey hit' sb=>?_))
 have I1:Inv X pins σ (upd H d (.frz o (.dK kvs))) {s with heap:=h'}:=fI.turned (s:={s with heap:=h0}) (t':=s.toks) I0 fun b u hb e=>(sb.2 b hb).trans e
 have hS':h'.get? S=some (seqObj "list" #[] 0):=(sb.2 S (Ne.symm hIS)).trans gS0
 obtain ⟨oI,hoI,hoc,hod⟩:=id hit'
 have hzj:zs[0]?=some zs[0]:=List.getElem?_eq_getElem hpos
 have ek:zs[0].1=kV kvs[0].1:=by
  have h1:(zs.map (·.1))[0]?=some zs[0].1:=by rw [List.getElem?_map,hzj]; rfl
  have h2:(kvs.map fun kv=>kV kv.1)[0]?=some (kV kvs[0].1):=by rw [List.getElem?_map,List.getElem?_eq_getElem hk0]; rfl
  rw [hzs,h2] at h1
  exact (Option.some.inj h1).symm
 have rk:RelV zs[0].1 key:=by rw [ek]; exact Sj hkey
 have hzm:zs[0]∈zs:=List.getElem_mem _
 generalize zs[0]=y at hzj rk hzm
 have nI:∀ v,oI.data≠.cell v:=fun v e=>by rw [hod] at e; cases e
 obtain ⟨fI0,fI1,fI2,fI3,fI4,fI5⟩:=id fI
 obtain ⟨fS0,fS1,fS2,fS3,fS4,fS5⟩:=id fS
 have I2:Inv X (pins++[(It,oI),(S,seqObj "list" #[] 0)]) σ (upd H d (.frz o (.dK kvs))) {s with heap:=h'}:=I1.pins_of fun p hp=>by
  rcases List.mem_append.mp hp with hp | hp
  ·exact I1.pin p (List.mem_append_right _ hp)
  ·rcases List.mem_cons.mp hp with rfl | hp
   ·exact ⟨hoI,fI0,fI1,fI2,nI⟩
   ·rw [List.mem_singleton.mp hp]; exact ⟨hS',fS0,fS1,fS2,Ds⟩
 show wpAny _ X.A.in1 (tryCatch (holding [key] (call (.ref q) [key])) _>>=_) _ _ _
 refine wpAny_bind (wpAny_tryCatch (wpAny_holding (wpAny_mono (Jb (CX:=CX0) (Q:=fun v H3=>∃ t,v=.ref t∧(upd H d (.frz o (.dK kvs))) t=none∧H3=upd (upd H d (.frz o (.dK kvs))) t (.tup (y.2.map V.int))) (E:=fun _ _=>False) F (hr.mono (by omega)).in1 rfl hb I2 hqf rk (hsp o y hzm _ _ (Same.refl _) fun t ht=>⟨t,rfl,ht,rfl⟩)) (fun k' s3 hk3=>?_) fun _ _ f=>f.elim)))
 obtain ⟨v,H3,I3,r3,t,rfl,ht3,rfl⟩:=hk3
 cases r3
 have S3:Same (upd H d (.frz o (.dK kvs))) (upd (upd H d (.frz o (.dK kvs))) t (.tup (y.2.map V.int))):=fun b o e=>by rw [Ae (Aj e ht3)]; exact e
 have htt:(upd (upd H d (.frz o (.dK kvs))) t (.tup (y.2.map V.int))) t=some (.tup (y.2.map V.int)):=Ag
 obtain ⟨pI,nI3,_,_,_⟩:=I3.pin (It,oI) (by simp)
 obtain ⟨pS,nS3,_,_,_⟩:=I3.pin (S,seqObj "list" #[] 0) (by simp)
 have I4:=I3.unpinned
 have fI':=fI.heap nI3
 have fS':=fS.heap nS3
 generalize upd (upd H d (.frz o (.dK kvs))) t (.tup (y.2.map V.int))=H3 at *
 have s1:=Heap.SameBut.update s3.heap S (Obj.mapSeq fun _=>#[key,.ref t])
 obtain ⟨c2,hc2⟩:∃ c2,(s3.heap.update S (Obj.mapSeq fun _=>#[key,.ref t])).get? S=some (seqObj "list" #[key,.ref t] c2):=⟨_,get?_update_seq pS fun _=>#[key,.ref t]⟩
 show wpAny _ X.A.in1 (updateSeq S (fun _=>#[key,.ref t])>>=_) _ _ _
 refine wpAny_bind ?_
 refine wpAny_updateSeq pS rfl ?_
 rw [hname]
 have I5:Inv X pins σ H3 {s3 with heap:=s3.heap.update S (Obj.mapSeq fun _=>#[key,.ref t])}:=fS'.turned (t':=s3.toks) I4 fun b u hb e=>(s1.2 b hb).trans e
 refine wpAny_pure ⟨plainId_quiet PySem.F.plain_min_loop _,Y3 (H:=upd H d (.frz o (.dK kvs))) hh hu F (hr.mono (by omega)).in1 rfl hb hdata hzs (hsp o) hfz hqf hIS ?_ _ 0 0 _ H3 key t c2 y rfl hpos S3 I5 fI' fS' ⟨oI,(s1.2 It hIS).trans pI,hoc,by rw [hod,hl']⟩ hc2 hzj rk htt ⟨Nat.lt_succ_self _,fun j' y' z' hj' hy' hz'=>?_⟩⟩
 ·intro i z u H' s' hz ru hL SS I'
  have hfz':=SS _ _ hfz
  refine ⟨z.1,upd H' d (.dK kvs),I'.thaw hfz' hnf,ru,hQ z (List.mem_of_getElem? hz) (fun y hy=>?_) _ fun b u e=>?_⟩
  ·obtain ⟨j,hj,rfl⟩:=List.getElem_of_mem hy
   exact hL.2 j _ z hj (List.getElem?_eq_getElem hj) hz
  ·by_cases hbd:b=d
   ·subst hbd; rw [Ag,← hd,e]
   ·rw [Ae hbd]
    exact SS b u (by rw [Ae hbd]; exact e)
 ·have:j'=0:=by omega
  subst this
  rw [hy'] at hz'
  cases hz'
  exact H0 _
theorem gD {kk:Nat} {g:Addr} {fd:FuncData} {ps:List Str} {sp:Sp} {e f:Expr} {ti tk:TE} {p pos kpos:Pos} (hc:X.calm=true) (F:FnOk X.prog X.w X.K X.mg X.base CX0 kk g fd ps sp) (hr:Room (kk+2) X.A) (hb:B8 X.K fd ps []) (hg:Gl X "min") (hm:X.mg "min"=none)
  (he:PE X e ti) (hf:PE X f tk) (hs:starEach [e] X.env=(false,eval e X.env)::starEach [] X.env:=by rfl) (hbt:backTo pos (starEach [e] X.env)=(false,eval e X.env)::backTo pos (starEach [] X.env):=by rfl)
  (hpl:(backTo pos (starEach [e] X.env)).any (·.1)=false:=by rfl):PE X (.Call (.Name "min" p) [e] [⟨some "key",f,kpos⟩] pos) (tMinK g sp ti tk):=by
 intro pins s σ H Q I h
 refine wpAny_Call_Name_kw (G3 I hg hm boot_min ?_ (by decide) (by decide))
 refine callWith_kw (thn ((Aa he Ac hs) pos pins s σ H (one1 fun x H1=>tk σ H1 fun f H2=>Xf g sp x f H2 Q) I h) fun us s1 ⟨vs,H1,I1,r1,q1⟩=>?_) hbt hpl rfl rfl
 obtain ⟨x,rfl,q1⟩:=Mq q1
 obtain ⟨u,rfl,ru⟩:=D3 r1
 refine thn ((Xh hf bU) pos pins s1 σ H1 (one1 fun f H2=>Xf g sp x f H2 Q) I1 q1) fun ws s2 ⟨zs,H2,I2,r2,q2⟩=>?_
 obtain ⟨f',rfl,q2⟩:=Mq q2
 obtain ⟨v,rfl,rv⟩:=D3 r2
 exact Y4 hc F hr hb I2 ru rv q2
end
end L2

namespace L2
open PySem PySem.Spec PyProof.Rows
def FunB (K:PySem.W.Frag) (x qual:Str) (st:Stmt) (f:Addr) (ps:List Str):Prop:=∃ fd,Fun K x qual st f fd∧B8 K fd ps []
def FnP (P:Program) (w:World) (K:PySem.W.Frag) (mg:Str->Option Value) (base:Heap) (k:Nat) (f:Addr) (ps:List Str) (sp:Sp):Prop:=∃ fd,FnOk P w K mg base CX0 k f fd ps sp∧B8 K fd ps []∧PySem.W.keepIn K (.ref f)=true
section
variable {P:Program} {w:World} {K:PySem.W.Frag} {mg:Str->Option Value} {base:Heap}
theorem FunB.ok {x qual:Str} {st:Stmt} {f:Addr} {N ps:List Str} {k:Nat} {sp:Sp} (F:FunB K x qual st f ps) (S:Al N ps (defScope st)) (len:∀ vs H Q E,sp vs H Q E->vs.length=ps.length)
  (hbody:∀ (cdv:Value) (A:Around) (outer:List Env) (s:Shared) (H:Hp) (vs:List V) (Q:VK) (E:XK),Room k (A.deeper (envOfC qual (defScope st) s.heap.objs.size f cdv))->sp vs H Q E ->
    ∃ t,PSs (cxOf CX0 P w K mg base N qual (defScope st) f cdv A outer s H E).nox (defBody st) t∧t {nx:=fun _ H'=>Q .non H',rt:=Q} (C9 N vs) H):FnP P w K mg base (k+1) f ps sp:=by
 obtain ⟨fd,F,b⟩:=F
 exact ⟨fd,F.ok S len hbody,b,F.kp⟩
theorem FnP.mono {j k:Nat} {f:Addr} {ps:List Str} {sp:Sp} (F:FnP P w K mg base j f ps sp) (h:j≤k):FnP P w K mg base k f ps sp:=by
 obtain ⟨fd,F,b,kp⟩:=F
 exact ⟨fd,F.mono h,b,kp⟩
theorem hW {x qual:Str} {st:Stmt} {f:Addr} {ps:List Str} {oc:Value} {od an:Option Addr} {osl:Array (Option Value)} {kV doc pm cdv ct:Value} (l:K.lookup f=some ⟨oc,od,.func (PySem.W.fnOf x qual (defArgs st) (defBody st) (defScope st) .none kV doc pm an cdv ct),osl⟩)
  (c:PySem.W.codeIn K cdv qual=true) (k:PySem.W.keepIn K (.ref f)=true)
  (h:∀ (kV doc pm:Value) (an:Option Addr) (cdv ct:Value) (us:List Value),us.length=ps.length->bindArgs (PySem.W.fnOf x qual (defArgs st) (defBody st) (defScope st) .none kV doc pm an cdv ct) ⟨us,[]⟩=pure (ps.zip us)):FunB K x qual st f ps:=
 have F:=dS (st:=st) l c k
 ⟨_,F,F.binds h⟩
end
section
variable {X:Cx} {k:Nat} {f C:Addr} {ps:List Str} {sp:Sp} {x m:Str} {p pos apos:Pos} {e o:Expr} {es:List Expr} {ta:TE} {t:TA}
theorem Am (F:FnP X.prog X.w X.K X.mg X.base k f ps sp) (hr:Room k X.A) (hm:X.mg x=some (.ref f)) (ha:PA X (e::es) t) (hg:Gl X x:=by rfl) (hdb:(x==("__debug__":Str))=false:=by decide)
  (he:starEach (e::es) X.env=(false,eval e X.env)::starEach es X.env:=by rfl) (hpl:(backTo pos (starEach es X.env)).any (·.1)=false:=by rfl):PE X (.Call (.Name x p) (e::es) [] pos) (Tk sp [] E0 t):=by
 obtain ⟨fd,F,hb,hk⟩:=F
 exact Xk F hr hg hm hk hb .nil Fx ha hdb he hpl
theorem Aw {pl:Sem Bool} (he:PE X o ta) (c:Cls X.K C) (hm:Meth X.K C m f) (F:FnP X.prog X.w X.K X.mg X.base k f ps sp) (hr:Room k X.A) (ha:PA X (e::es) t)
  (ht:eval (.Call (.Attribute o m apos) (e::es) [] pos) X.env=(do
    let ov ← eval o X.env
    standAt apos.atName
    let (f,first) ← holding [ov] (getMethod ov m pl)
    callWith pos f first (backTo pos (starEach (e::es) X.env)) (backToKw pos (keywordEach [] X.env))):=by rfl)
  (hst:starEach (e::es) X.env=(false,eval e X.env)::starEach es X.env:=by rfl) (hpl:(backTo pos (starEach es X.env)).any (·.1)=false:=by rfl):PE X (.Call (.Attribute o m apos) (e::es) [] pos) (Tj C m sp [] E0 ta t):=by
 obtain ⟨fd,F,hb,hk⟩:=F
 exact Ff (pl:=pl) he c hm F hr hb .nil Fx ha hst hpl ht
theorem Cp {pl:Sem Bool} (he:PE X o ta) (c:Cls X.K C) (hm:Meth X.K C m f) (F:FnP X.prog X.w X.K X.mg X.base k f ps sp) (hr:Room k X.A)
  (ht:eval (.Call (.Attribute o m apos) [] [] pos) X.env=(do
    let ov ← eval o X.env
    standAt apos.atName
    let (f,first) ← holding [ov] (getMethod ov m pl)
    callWith pos f first (backTo pos (starEach [] X.env)) (backToKw pos (keywordEach [] X.env))):=by rfl):PE X (.Call (.Attribute o m apos) [] [] pos) (Tj C m sp [] E0 ta tNil):=by
 obtain ⟨fd,F,hb,hk⟩:=F
 exact bZ (pl:=pl) he c hm F hr hb .nil Fx ht
end
def LcW (n:Nat) (Pv:Nat->List V->St->Hp->Prop):Nat->Nat->List V->St->Hp->Prop:=fun i m ys σ H=>m=n - i∧i≤n∧ys.length≤i∧Pv i ys σ H
theorem J5 {n i:Nat} {ys:List V} {y:V} {Pv:Nat->List V->St->Hp->Prop} {σ:St} {H:Hp} (hi:i<n) (hl:ys.length≤i) (hn:n≤sizeLine) (p:Pv (i+1) (ys++[y]) σ H):ys.length<sizeLine∧∃ m',m'<n - i∧LcW n Pv (i+1) m' (ys++[y]) σ H:=
 ⟨by omega,n - (i+1),by omega,rfl,hi,by rw [List.length_append,List.length_singleton]; omega,p⟩
theorem lcNo {n i:Nat} {ys:List V} {Pv:Nat->List V->St->Hp->Prop} {σ:St} {H:Hp} (hi:i<n) (hl:ys.length≤i) (p:Pv (i+1) ys σ H):∃ m',m'<n - i∧LcW n Pv (i+1) m' ys σ H:=
 ⟨n - (i+1),by omega,rfl,hi,by omega,p⟩
theorem J4 {J:It} {cap:List (Option Nat)} {g:TG} {tc:TT} {te:TE} {Q:VK} {σ:St} {H:Hp} (n:Nat) (Pv:Nat->List V->St->Hp->Prop) (h0:Pv 0 [] (capS cap σ) H) (hn:n≤sizeLine)
  (hgo:∀ i ys σ H,i<n->Pv i ys σ H->J.go i H) (hstop:∀ ys σ H,Pv n ys σ H->J.stop n H)
  (hs:∀ i ys σ H x H2,i<n->ys.length≤i->Pv i ys σ H->J.yld i H x H2->g x σ H2 fun σ3 H3=>tc σ3 H3 fun b H4=>if b=true then te σ3 H4 fun y H5=>ys.length<sizeLine∧∃ m',m'<n - i∧LcW n Pv (i+1) m' (ys++[y]) σ3 H5 else ∃ m',m'<n - i∧LcW n Pv (i+1) m' ys σ3 H4)
  (hd:∀ ys σ H,Pv n ys σ H->∀ p,H p=none->Q (.ref p) (upd H p (.lst ys))):LcG cap g tc te σ Q J H:=by
 refine ⟨LcW n Pv,⟨n,by simp,Nat.zero_le _,Nat.le_refl _,h0⟩,?_⟩
 rintro i m ys σ' H' ⟨rfl,hi,hl,p⟩
 refine ⟨by omega,?_⟩
 by_cases hlt:i<n
 ·exact .inr ⟨hgo i ys σ' H' hlt p,fun x H2 y=>hs i ys σ' H' x H2 hlt hl p y⟩
 ·have e:i=n:=by omega
  subst e
  exact .inl ⟨hstop ys σ' H' p,hd ys σ' H' p⟩
theorem dU {J:It} {g:TG} {tb:TS} {D:Ends} {σ:St} {H:Hp} (n:Nat) (Pv:Nat->St->Hp->Prop) (h0:Pv 0 σ H) (hgo:∀ i σ H,i<n->Pv i σ H->J.go i H) (hstop:∀ σ H,Pv n σ H->J.stop n H)
  (hs:∀ i σ H x H',i<n->Pv i σ H->J.yld i H x H'->g x σ H' fun σ2 H2=>tb {D with nx:=Pv (i+1),ct:=Pv (i+1),bk:=D.nx} σ2 H2) (hd:∀ σ H,Pv n σ H->D.nx σ H) :
  ∃ W:Nat->Nat->St->Hp->Prop,(∃ m,W 0 m σ H)∧∀ i m σ H,W i m σ H ->
   (J.stop i H∧D.nx σ H)∨(J.go i H∧∃ N:St->Hp->Prop,(∀ σ' H',N σ' H'->∃ m',m'<m∧W (i+1) m' σ' H')∧∀ x H',J.yld i H x H'->g x σ H' fun σ2 H2=>tb {D with nx:=N,ct:=N,bk:=D.nx} σ2 H2):=by
 refine ⟨fun i m σ H=>m=n - i∧i≤n∧Pv i σ H,⟨n,by simp,Nat.zero_le _,h0⟩,?_⟩
 rintro i m σ H ⟨rfl,hi,p⟩
 by_cases hlt:i<n
 ·exact .inr ⟨hgo i σ H hlt p,Pv (i+1),fun σ' H' p'=>⟨n - (i+1),by omega,rfl,hlt,p'⟩,fun x H' y=>hs i σ H x H' hlt p y⟩
 ·have e:i=n:=by omega
  subst e
  exact .inl ⟨hstop σ H p,hd σ H p⟩
theorem Same.upd {H:Hp} {l:Addr} {o:HO} (h:H l=none):Same H (upd H l o):=fun b u e=>by rw [Ae (Aj e h)]; exact e
theorem OpR.letter {X:Cx} {f:Value->Value->Sem Value} {C:Int->Int->Prop} {g:Int->Int->Int} (h:OpR X f (rI C fun i j=>.int (g i j))):OpR X f (fun x y H Q=>∃ i j,x=.int i∧y=.int j∧C i j∧∀ z,z=g i j->Q (.int z) H):=by
 intro pins s σ H x y v u Q I rx ry q
 obtain ⟨i,j,e1,e2,hc,q⟩:=q
 exact h pins s σ H x y v u Q I rx ry ⟨i,j,e1,e2,hc,q _ rfl⟩
theorem OpR.letter0 {X:Cx} {f:Value->Value->Sem Value} {g:Int->Int->Int} (h:OpR X f (rI0 fun i j=>.int (g i j))):OpR X f (fun x y H Q=>∃ i j,x=.int i∧y=.int j∧∀ z,z=g i j->Q (.int z) H):=by
 intro pins s σ H x y v u Q I rx ry q
 obtain ⟨i,j,e1,e2,q⟩:=q
 exact h pins s σ H x y v u Q I rx ry ⟨i,j,e1,e2,q _ rfl⟩
end L2

namespace L2
open PySem PySem.Spec PyProof.Rows
structure Pb (K:PySem.W.Frag) (C:Addr) (m:Str) (f:Addr):Prop where
 sp:PySem.W.specialIn K (.ref C) "__getattribute__"=some (some (.builtin "type.__getattribute__"))
 rd:PySem.W.readsIn K C (.type "type")=true
 fc:PySem.W.findCls K (.ref C) (.type "type") m=some (PySem.W.CFound.val (.ref f))
section
variable {X:Cx} {k:Nat} {f C:Addr} {ps:List Str} {sp:Sp} {x m:Str} {p pos apos:Pos} {e:Expr} {es:List Expr} {t:TA}
theorem Xj {pl:Sem Bool} (hm:X.mg x=some (.ref C)) (c:Pb X.K C m f) (F:FnP X.prog X.w X.K X.mg X.base k f ps sp) (hr:Room k X.A) (ha:PA X (e::es) t) (hg:Gl X x:=by rfl) (hdb:(x==("__debug__":Str))=false:=by decide)
  (ht:eval (.Call (.Attribute (.Name x p) m apos) (e::es) [] pos) X.env=(do
    let ov ← eval (.Name x p) X.env
    standAt apos.atName
    let (f,first) ← holding [ov] (getMethod ov m pl)
    callWith pos f first (backTo pos (starEach (e::es) X.env)) (backToKw pos (keywordEach [] X.env))):=by rfl)
  (hst:starEach (e::es) X.env=(false,eval e X.env)::starEach es X.env:=by rfl) (hpl:(backTo pos (starEach es X.env)).any (·.1)=false:=by rfl):PE X (.Call (.Attribute (.Name x p) m apos) (e::es) [] pos) (Tk sp [] E0 t):=by
 obtain ⟨fd,F,hb,hk⟩:=F
 intro pins s σ H Q I h
 refine PySem.W.methodCall_KW (pl:=pl) (Fl I hg hm ?_ hdb) ht
 refine PySem.W.method_cls I.kIn c.sp (PySem.W.cls_value I.kIn c.rd c.fc rfl ?_)
 refine PySem.W.callWith_K (first:=[]) (h₀:=X.base) I.ok.mod.kin hk (thn (ha pos pins _ σ H _ (I.tok _) h) fun us s2 ⟨vs,H2,I2,r,q2⟩=>⟨I2.kIn,?_⟩) hst hpl
 exact Nz F hr hb .nil Fx I2 r q2
def tJoin (t:TS):TS:=fun D σ H=>∃ J:St->Hp->Prop,t {D with nx:=J} σ H∧∀ σ' H',J σ' H'->D.nx σ' H'
theorem Mh {st:Stmt} {t:TS} (h:PS X st t):PS X st (tJoin t):=by
 intro pins s σ H D I hq
 obtain ⟨J,q,j⟩:=hq
 refine thn (h pins s σ H _ I q) fun f s1 h1=>?_
 cases f with
 | next=>obtain ⟨σ1,H1,I1,q⟩:=h1; exact ⟨σ1,H1,I1,j _ _ q⟩
 | brk=>exact h1
 | cont=>exact h1
 | ret u=>exact h1
end
end L2

namespace L2
open PySem PySem.Spec PyProof.Rows
section
variable {X:Cx}
end
end L2

namespace L2
open PySem PySem.Spec PyProof.Rows
section
variable {X:Cx} {pins:List (Addr×Obj)} {σ:St} {H:Hp} {s:Shared}
theorem dC:MtR X "list.index" (fun x vs H Q=>∃ (l:Addr) (xs:List V) (y:V) (j:Nat),x=.ref l∧vs=[y]∧H l=some (.lst xs)∧Cv y=true∧xs.all Cv=true∧j<xs.length∧(∀ z,xs[j]?=some z->eqV z y=true)∧(∀ m z,m<j->xs[m]?=some z->eqV z y=false)∧Q (.int j) H):=by
 intro pins s σ H x vs v us Q I rx rv h
 obtain ⟨l,xs,y,j,rfl,rfl,hH,fy,fs,hj,h1,h2,q⟩:=h
 cases rx
 obtain ⟨u,rfl,ru⟩:=D3 rv
 obtain ⟨z,its,n,r,hl,e⟩:=I.lstM hH
 have at_:∀ (m:Nat) (hm:m<its.toArray.size),∃ x,xs[m]?=some x∧RelV x its.toArray[m]:=fun m hm=>by
  have hm':m<its.length:=by simpa using hm
  have hx:m<xs.length:=by omega
  obtain ⟨w,hw,rw'⟩:=r.get (List.getElem?_eq_getElem hx)
  rw [List.getElem?_eq_getElem hm'] at hw
  cases hw
  exact ⟨xs[m],List.getElem?_eq_getElem hx,by simpa using rw'⟩
 have fl:∀ (m:Nat) x,xs[m]?=some x->Cv x=true:=fun m x hx=>List.all_eq_true.mp fs x (List.mem_of_getElem? hx)
 have hjs:j<its.toArray.size:=by simp; omega
 have line:xs.length≤sizeLine:=z
 refine call_meets F.slot_list_index ⟨_,e,rfl⟩ F.entry_list_index (F.args_list_index_2 _ _) (SeqAt.list_indexAt l its.toArray n none #[] u (eqU y) j hjs ?_ ?_ ?_) ⟨e,fun w hw=>Jz ru fy r fs w (by simpa using hw),?_⟩
 ·have:=Gz
  omega
 ·obtain ⟨x,hx,rx⟩:=at_ j hjs
  rw [Sx rx (fl j x hx)]
  exact h1 x hx
 ·intro m hm hmj
  obtain ⟨x,hx,rx⟩:=at_ m hm
  rw [Sx rx (fl m x hx)]
  exact h2 m x hmj hx
 ·exact ⟨.int j,H,I.tok _,⟨_,rfl⟩,q⟩
theorem Gh:∀ (bs:List Int) (n:Nat),n≤bs.length->preSum (fun i=>bs.getD i 0) n=(bs.take n).sum
 | bs,0,_=>by simp [preSum]
 | bs,n+1,h=>by
   have hn:n<bs.length:=h
   have e1:preSum (fun i=>bs.getD i 0) (n+1)=preSum (fun i=>bs.getD i 0) n+bs.getD n 0:=rfl
   have e2:bs.take (n+1)=bs.take n++[bs[n]]:=by rw [List.take_add_one,List.getElem?_eq_getElem hn]; rfl
   rw [e1,Gh bs n (Nat.le_of_lt hn),e2,List.sum_append]
   simp [List.getD_eq_getElem?_getD,List.getElem?_eq_getElem hn]
theorem eR (hc:X.calm=true):D4 X (.builtin "sum") (fun vs H Q=>∃ (p:Addr) (bs:List Int),vs=[.ref p]∧SqL X.K H p (bs.map V.int)∧(∀ b∈bs,InLong b)∧(∀ n,InLong (bs.take n).sum)∧Q (.int bs.sum) H):=by
 intro pins s σ H xs us Q I r h
 obtain ⟨p,bs,rfl,hq,b1,b2,q⟩:=h
 obtain ⟨u,rfl,ru⟩:=D3 r
 cases ru
 obtain ⟨its,rl,pl,hz⟩:=I.list hq
 have hh:X.A.in1.handled=none:=I.ok.hd hc
 have hl:=rl.length
 rw [List.length_map] at hl
 refine call_sum_walk (wpAny_pyIter_list pl.isList ?_)
 have hne:p≠s.heap.objs.size:=by
  obtain ⟨o,ho,_⟩:=pl.isList
  exact Nat.ne_of_lt (Heap.lt_size ho)
 have hps:p<s.heap.objs.size:=by
  obtain ⟨o,ho,_⟩:=pl.isList
  exact Heap.lt_size ho
 have hsz:its.toArray.size=bs.length:=by simp [hl]
 refine ⟨s.heap.objs.size,_,_,_,_,_,fun i=>bs.getD i 0,rfl,Walks.list hh _ p hne its.toArray,⟨⟨_,Heap.get?_push_size _ rfl,rfl,rfl⟩,pl.isList.at fun o e=>Heap.get?_push_of_some _ e⟩,?_,?_,?_,fun h' tk t' kp=>?_⟩
 ·intro b hb
  rw [Heap.size_push]
  rcases List.mem_cons.mp hb with z | z
  ·rw [z]; exact Nat.lt_succ_self _
  ·rw [List.mem_singleton.mp z]; exact Nat.lt_succ_of_lt hps
 ·intro i v hv
  have hv':its[i]?=some v:=by simpa using hv
  have hi:i<bs.length:=by rw [hl]; exact (List.getElem?_eq_some_iff.mp hv').1
  obtain ⟨u,eu,ru⟩:=rl.get (i:=i) (x:=.int bs[i]) (by simp [hi])
  have:u=v:=Option.some.inj (eu.symm.trans hv')
  subst this
  obtain ⟨t,rfl⟩:=ru
  exact ⟨t,by simp [List.getD_eq_getElem?_getD,List.getElem?_eq_getElem hi]⟩
 ·intro j hj
  rw [hsz] at hj
  refine ⟨b1 _ ?_,?_⟩
  ·show bs.getD j 0∈bs
   rw [List.getD_eq_getElem?_getD,List.getElem?_eq_getElem hj]; exact List.getElem_mem hj
  ·rw [Gh bs (j+1) hj]; exact b2 _
 ·rw [hsz,Gh bs bs.length (Nat.le_refl _),List.take_length]
  exact ⟨.int bs.sum,H,I.kept (t':=tk) fun b o e=>kp b o (fun z=>Nat.ne_of_lt (Heap.lt_size e) (List.mem_singleton.mp z)) (Heap.get?_push_of_some _ e),⟨t',rfl⟩,q⟩
def Itk (d:Addr) (o:Obj) (kvs:List (Key×V)):It:=
 ⟨fun i H=>H d=some (.frz o (.dK kvs))∧i<kvs.length,fun i H x H'=>H'=H∧∃ k v,kvs[i]?=some (k,v)∧x=kV k,fun i H=>H d=some (.frz o (.dK kvs))∧kvs.length≤i⟩
theorem X5 {P:Program} {w:World} {K:PySem.W.Frag} {tg:Expr} (d it:Addr) (o:Obj) (es:Array DictEntry) (ep:Nat) (kvs:List (Key×V)) (hd:o.data=.dict es ep):Turn P w K tg (Itk d o kvs) [it] it (fun i h=>h.IsKeyIter it d i kvs.length ep) where
 mem:=by simp
 obj:=fun i h st b hb=>by
  obtain ⟨ob,e,_,z⟩:=st
  rw [List.mem_singleton.mp hb]; exact ⟨_,e,fun v y=>by rw [z] at y; cases y⟩
 keep:=fun i h h' st k=>by
  obtain ⟨ob,e,r⟩:=st
  exact ⟨ob,k it (by simp) _ e,r⟩
 item:=by
  intro X hP hw hK hc i pins s σ H E I hf st hg
  subst hP hw hK
  obtain ⟨hfz,hi⟩:=hg
  obtain ⟨vs,kv,hat⟩:=G5 I hfz hd
  have hl:=kv.length
  obtain ⟨f0,f1,f2,f3,f4,f5⟩:=hf it (by simp)
  obtain ⟨k,v,hx⟩:∃ k v,kvs[i]?=some (k,v):=⟨kvs[i].1,kvs[i].2,by simp [hi]⟩
  obtain ⟨u,hu,ru⟩:=V8 kv hx
  refine wpAny_pyNext_dict_item (knd:=A6 X.prog X.w) (by rw [← hl]; exact st) hat hu fun key h' hkey st' sb=>⟨_,rfl,?_⟩
  have I1:Inv X pins σ H {s with heap:=h'}:=I.turned (t':=s.toks) (fun b o hb e=>(sb.2 b hb).trans e) f0 f1 f3 f4 f5
  rw [← hl] at st'
  exact letGo_keyiter st' ⟨kV k,H,I1,Sj hkey,⟨rfl,k,v,hx,rfl⟩,st',fun b hb=>(hf b hb).1⟩
 done:=by
  intro X hP hw hK hc i pins s σ H E I hf st hg
  subst hP hw hK
  obtain ⟨hfz,hi⟩:=hg
  obtain ⟨vs,kv,hat⟩:=G5 I hfz hd
  have hl:=kv.length
  obtain ⟨f0,f1,f2,f3,f4,f5⟩:=hf it (by simp)
  exact wpAny_pyNext_dict_end (knd:=A6 X.prog X.w) (I.ok.hd hc) (by rw [← hl]; exact st) hat (by simp; omega) fun h' eb=>⟨rfl,I.turned (t':=s.toks) (fun b o hb e=>eb b o hb e) f0 f1 f3 f4 f5⟩
 self:=fun A i s Q E st h=>wpAny_pyIter_keyiter st h
def iKeys (td:TE):TI:=fun σ H R=>td σ H fun x H1=>∃ d kvs,x=.ref d∧H1 d=some (.dK kvs)∧∀ o,R (Itk d o kvs) (upd H1 d (.frz o (.dK kvs)))
theorem gA {tg e:Expr} {td:TE} (he:PE X e td):PI X tg e (iKeys td):=by
 intro pins s σ H R I h
 refine thn (he pins s σ H _ I h) fun u s1 ⟨x,H1,I1,rx,d,kvs,ex,hd,q⟩=>?_
 subst ex
 obtain rfl:u=Value.ref d:=rx
 obtain ⟨hz,hs,vs,kv,dd⟩:=eJ I1.hok hd
 have hl:=kv.length
 obtain ⟨od,es,ep,ho,hx1,hx2,hx3⟩:=id dd
 refine wpAny_pyIter_dict (knd:=A6 X.prog X.w) (kvs:=vs) (ep:=ep) hs ⟨od,es,ho,hx1,hx2,hx3⟩ ?_
 have I3:=I1.freeze hd ho
 have hfree:∀ c,s1.heap.objs.size≤c->(upd H1 d (.frz od (.dK kvs))) c=none:=fun c hc=>I3.hok.fresh hc
 refine ⟨_,[_],_,_,_,rfl,I3.kept (t':=s1.toks) fun b o e=>Heap.get?_push_of_some _ e,X5 d _ od es ep kvs hx2,⟨_,Heap.get?_push_size _ rfl,rfl,by rw [hl]; rfl⟩,fun c hc=>?_,q od⟩
 rw [List.mem_singleton.mp hc]
 exact I3.fpOk (Nat.le_refl _) (hfree _ (Nat.le_refl _))
end
end L2

namespace L2
open PySem PySem.Spec PyProof.Rows
def Itz (K:PySem.W.Frag) (a b:Addr):It:=
 ⟨fun i H=>∃ xs x ys y,SqL K H a xs∧xs[i]?=some x∧SqL K H b ys∧ys[i]?=some y,
  fun i H v H'=>∃ T x y,H T=none∧v=.ref T∧H'=upd H T (.tup [x,y])∧(∀ xs,SqL K H a xs->xs[i]?=some x)∧∀ ys,SqL K H b ys->ys[i]?=some y,
  fun i H=>∃ xs ys,SqL K H a xs∧SqL K H b ys∧(xs.length≤i∨ys.length≤i)⟩
structure ZD (z TI TO i1 i2:Addr):Prop where
 TIz:TI≠z
 TOz:TO≠z
 i1z:i1≠z
 i2z:i2≠z
 TITO:TI≠TO
 TIi1:TI≠i1
 TIi2:TI≠i2
 TOi1:TO≠i1
 TOi2:TO≠i2
 i12:i1≠i2
theorem G8 {h:Heap} {a b:Addr} {o:Obj} {xs:Array Value} (ha:h.IsList a xs) (hb:h.get? b=some o) (hc:o.cls≠.type "list"):a≠b:=fun e=>by
 obtain ⟨o',ho,hl,_⟩:=ha
 rw [e,hb] at ho
 cases ho
 exact hc hl
theorem apart_of {h:Heap} {z TI TO i1 i2 l1 l2:Addr} {f0 a b:Value} {k1 k2:Nat} {xs ys:Array Value} (D:ZD z TI TO i1 i2) (hz:IsZip h z TI TO f0) (hTO:IsPair h TO a b) (h1:h.IsListIter i1 l1 k1) (h2:h.IsListIter i2 l2 k2) (hl1:h.IsList l1 xs) (hl2:h.IsList l2 ys):ZipApart z TI TO i1 i2 l1 l2:=by
 obtain ⟨o1,e1,c1,_⟩:=h1
 obtain ⟨o2,e2,c2,_⟩:=h2
 have n1:o1.cls≠.type "list":=by rw [c1]; decide
 have n2:o2.cls≠.type "list":=by rw [c2]; decide
 exact ⟨D.TIz,D.TOz,D.i1z,D.i2z,D.TITO,D.TIi1,D.TIi2,D.TOi1,D.TOi2,D.i12,G8 hl1 hz (by show Value.type "zip"≠_; decide),G8 hl1 hTO (by show Value.type "tuple"≠_; decide),G8 hl1 e1 n1,G8 hl1 e2 n2,
  G8 hl2 hz (by show Value.type "zip"≠_; decide),G8 hl2 hTO (by show Value.type "tuple"≠_; decide),G8 hl2 e1 n1,G8 hl2 e2 n2⟩
theorem Z6 {P:Program} {w:World} {K:PySem.W.Frag} {elts:List Expr} {k1} {tp:Pos} (a b z TI TO i1 i2:Addr) (D:ZD z TI TO i1 i2) :
  Turn P w K (.Tuple elts k1 tp) (Itz K a b) [z,TI,TO,i1,i2] z (fun i h=>IsZip h z TI TO .none∧IsPair h TI (.ref i1) (.ref i2)∧(∃ x y,IsPair h TO x y)∧h.IsListIter i1 a i∧h.IsListIter i2 b i) where
 mem:=by simp
 obj:=fun i h st c hc=>by
  obtain ⟨hz,hTI,⟨x,y,hTO⟩,⟨o1,e1,_,d1⟩,⟨o2,e2,_,d2⟩⟩:=st
  simp only [List.mem_cons,List.not_mem_nil,or_false] at hc
  rcases hc with q | q | q | q | q
  ·rw [q]; exact ⟨_,hz,fun v z=>by cases z⟩
  ·rw [q]; exact ⟨_,hTI,fun v z=>by cases z⟩
  ·rw [q]; exact ⟨_,hTO,fun v z=>by cases z⟩
  ·rw [q]; exact ⟨o1,e1,fun v z=>by rw [d1] at z; cases z⟩
  ·rw [q]; exact ⟨o2,e2,fun v z=>by rw [d2] at z; cases z⟩
 keep:=fun i h h' st k=>by
  obtain ⟨hz,hTI,⟨x,y,hTO⟩,h1,h2⟩:=st
  exact ⟨k z (by simp) _ hz,k TI (by simp) _ hTI,⟨x,y,k TO (by simp) _ hTO⟩,h1.at fun o q=>k i1 (by simp) o q,h2.at fun o q=>k i2 (by simp) o q⟩
 item:=by
  intro X hP hw hK hc i pins s σ H E I hf st hg
  subst hP hw hK
  obtain ⟨xs,x,ys,y,hq,hx,hq',hy⟩:=hg
  obtain ⟨its,rv,p,hzz⟩:=I.list hq
  obtain ⟨its',rv',p',hzz'⟩:=I.list hq'
  obtain ⟨u,hu,ru⟩:=rv.get hx
  obtain ⟨u',hu',ru'⟩:=rv'.get hy
  obtain ⟨hz,hTI,⟨x0,y0,hTO⟩,h1,h2⟩:=st
  have A:=apart_of D hz hTO h1 h2 p.isList p'.isList
  refine wpAny_pyNext_zip_item A hz hTI hTO h1 h2 p.isList p'.isList (x:=u) (y:=u') (by simpa using hu) (by simpa using hu') fun h' hz' hTO' h1' h2' hT hsz kp=>⟨_,rfl,?_⟩
  refine wpAny_letOwnedTupleGo_zip hz' fun h3 hz3 sb=>?_
  have hzs:z<s.heap.objs.size:=Heap.lt_size hz
  have hT3:h3.get? s.heap.objs.size=some {cls:=.type "tuple",data:=.seq #[u,u']}:=(sb.2 _ (Nat.ne_of_gt hzs)).trans hT
  have hfree:H s.heap.objs.size=none:=I.hok.fresh (Nat.le_refl _)
  have I1:Inv X pins σ H {s with heap:=h3}:=I.turns (fp:=[z,TI,TO,i1,i2]) (t':=s.toks) hf fun c o hb q=>(sb.2 c fun e=>hb (by simp [e])).trans (kp c o (fun e=>hb (by simp [e])) (fun e=>hb (by simp [e])) (fun e=>hb (by simp [e])) (fun e=>hb (by simp [e])) q)
  have I2:Inv X pins σ (upd H s.heap.objs.size (.tup [x,y])) {s with heap:=h3}:=I1.track (I.fpOk (Nat.le_refl _) hfree) ⟨by show 2≤sizeLine; decide,[u,u'],.cons ru (.cons ru' .nil),_,hT3,rfl,_,rfl⟩
  refine ⟨.ref s.heap.objs.size,_,I2,rfl,⟨s.heap.objs.size,x,y,hfree,rfl,rfl,fun l hl=>by rw [I.list_inj hl hq]; exact hx,fun l hl=>by rw [I.list_inj hl hq']; exact hy⟩,⟨hz3,(sb.2 TI D.TIz).trans (kp TI _ D.TIz D.TITO D.TIi1 D.TIi2 hTI),⟨u,u',(sb.2 TO D.TOz).trans hTO'⟩,h1'.at fun o q=>(sb.2 i1 D.i1z).trans q,h2'.at fun o q=>(sb.2 i2 D.i2z).trans q⟩,fun c hc=>?_⟩
  have hlt:c<s.heap.objs.size:=by
   simp only [List.mem_cons,List.not_mem_nil,or_false] at hc
   obtain ⟨o1,e1,_⟩:=h1
   obtain ⟨o2,e2,_⟩:=h2
   rcases hc with q | q | q | q | q
   ·rw [q]; exact hzs
   ·rw [q]; exact Heap.lt_size hTI
   ·rw [q]; exact Heap.lt_size hTO
   ·rw [q]; exact Heap.lt_size e1
   ·rw [q]; exact Heap.lt_size e2
  rw [Ae (Nat.ne_of_lt hlt)]
  exact (hf c hc).1
 done:=by
  intro X hP hw hK hc i pins s σ H E I hf st hg
  subst hP hw hK
  obtain ⟨xs,ys,hq,hq',hx⟩:=hg
  obtain ⟨its,rv,p,hzz⟩:=I.list hq
  obtain ⟨its',rv',p',hzz'⟩:=I.list hq'
  obtain ⟨hz,hTI,⟨x0,y0,hTO⟩,h1,h2⟩:=st
  have A:=apart_of D hz hTO h1 h2 p.isList p'.isList
  have hl:=rv.length
  have hl':=rv'.length
  refine wpAny_pyNext_zip_end (I.ok.hd hc) A hz hTI hTO h1 h2 p.isList p'.isList (hx.elim (fun e=>.inl (by simp; omega)) fun e=>.inr (by simp; omega)) fun h' kp=>⟨rfl,I.turns (fp:=[z,TI,TO,i1,i2]) (t':=s.toks) hf fun c o hb q=>kp c o (fun e=>hb (by simp [e])) (fun e=>hb (by simp [e])) (fun e=>hb (by simp [e])) (fun e=>hb (by simp [e])) q⟩
 self:=fun _ _ _ _ _ st h=>wpAny_pyIter_zip st.1 h
section
variable {X:Cx}
def iZip (K:PySem.W.Frag) (ta:TA):TI:=fun σ H R=>ta σ H fun vs H1=>∃ a b,vs=[.ref a,.ref b]∧(∃ xs,SqL K H1 a xs)∧(∃ ys,SqL K H1 b ys)∧R (Itz K a b) H1
theorem bV {a b:Expr} {ta:TA} {p pos tp:Pos} {elts:List Expr} {k1} (hg:Gl X "zip") (hm:X.mg "zip"=none) (ha:PA X [a,b] ta) (hs:starEach [a,b] X.env=[(false,eval a X.env),(false,eval b X.env)]:=by rfl) (hs2:starEach [b] X.env=[(false,eval b X.env)]:=by rfl) :
  PI X (.Tuple elts k1 tp) (.Call (.Name "zip" p) [a,b] [] pos) (iZip X.K ta):=by
 intro pins s σ H R I h
 refine Call_ (G3 I hg hm boot_zip (PyProof.Rows.callWith_type1 (thn (ha pos pins s σ H _ I h) fun us s1 ⟨vs,H1,I1,r1,q1⟩=>?_) (by rw [hs,hs2]) (by rw [hs2]; rfl)))
 obtain ⟨l1,l2,e,⟨xs,hq⟩,⟨ys,hq'⟩,q⟩:=q1
 subst e
 obtain ⟨u,u',rfl,ru,ru'⟩:=Th r1
 cases ru
 cases ru'
 obtain ⟨its,rv,pl,hz⟩:=I1.list hq
 obtain ⟨its',rv',pl',hz'⟩:=I1.list hq'
 refine call_zip_2 pl.isList pl'.isList fun h' hz hTI hTO h1 h2 hsz kp=>?_
 refine wpAny_pyIter_zip hz ?_
 have hfree:∀ c,s1.heap.objs.size≤c->H1 c=none:=fun c hc=>I1.hok.fresh hc
 refine ⟨s1.heap.objs.size+4,[s1.heap.objs.size+4,s1.heap.objs.size+2,s1.heap.objs.size+3,s1.heap.objs.size,s1.heap.objs.size+1],_,_,H1,rfl,I1.kept (t':=s1.toks) kp,Z6 l1 l2 _ _ _ _ _ ⟨?_,?_,?_,?_,?_,?_,?_,?_,?_,?_⟩,⟨hz,hTI,⟨_,_,hTO⟩,h1,h2⟩,fun c hc=>?_,q⟩
 any_goals (refine Nat.ne_of_lt ?_; omega)
 any_goals (refine Nat.ne_of_gt ?_; omega)
 have hle:s1.heap.objs.size≤c:=by
  simp only [List.mem_cons,List.not_mem_nil,or_false] at hc
  rcases hc with z | z | z | z | z <;> (subst z; first | exact Nat.le_refl _ | exact Nat.le_add_right _ _)
 exact I1.fpOk hle (hfree c hle)
end
end L2

namespace L2
open PySem PySem.Spec PyProof.Rows PySem.W
section
variable {prog:Program} {w:World} {A:Around} {E:Value->Shared->Prop} {s:Shared}
end
section
variable {X:Cx} {pins:List (Addr×Obj)} {σ:St} {H:Hp} {s:Shared}
theorem dZ:∀ {x:V},Cv x=true->eqV x x=true:=by
 intro x h
 cases x <;> first | rfl | (simp [eqV]; done) | (simp [Cv] at h; done) | skip
def rNeT (K:PySem.W.Frag) (neg:Bool):R2:=fun x y H Q=>∃ (p q:Addr) (xs ys:List (Addr×List V)),x=.ref p∧y=.ref q∧SqL K H p (xs.map fun z=>V.ref z.1)∧SqL K H q (ys.map fun z=>V.ref z.1)∧(∀ z∈xs,SqT K H z.1 z.2∧z.2.all Cv=true)∧(∀ z∈ys,SqT K H z.1 z.2)∧xs.map (·.2)=ys.map (·.2)∧Q (.bl (!neg)) H
theorem Qy {A:Around} (hu:A.units<cLine) (I:Inv X pins σ H s) {xs ys:List (Addr×List V)} {us ws:List Value} (r1:Vals (xs.map fun z=>V.ref z.1) us) (r2:Vals (ys.map fun z=>V.ref z.1) ws) (hx:∀ z∈xs,SqT X.K H z.1 z.2∧z.2.all Cv=true) (hy:∀ z∈ys,SqT X.K H z.1 z.2) (e:xs.map (·.2)=ys.map (·.2)) :
  ∀ j (h1:j<us.toArray.size) (h2:j<ws.toArray.size),SeqAt.EqAt A s us.toArray[j] ws.toArray[j] true:=fun j h1 h2=>by
 have l1:=r1.length
 have l2:=r2.length
 rw [List.length_map] at l1 l2
 have j1:j<us.length:=by simpa using h1
 have j2:j<ws.length:=by simpa using h2
 have k1:j<xs.length:=by omega
 have k2:j<ys.length:=by omega
 obtain ⟨u,e1,q1⟩:=r1.get (i:=j) (x:=.ref xs[j].1) (by simp [k1])
 obtain ⟨v,e2,q2⟩:=r2.get (i:=j) (x:=.ref ys[j].1) (by simp [k2])
 have d1:us.toArray[j]=u:=by
  have:us[j]?=some us[j]:=by simp [j1]
  rw [this] at e1; simpa using Option.some.inj e1
 have d2:ws.toArray[j]=v:=by
  have:ws[j]?=some ws[j]:=by simp [j2]
  rw [this] at e2; simpa using Option.some.inj e2
 rw [d1,d2]
 cases q1
 cases q2
 have ej:xs[j].2=ys[j].2:=by
  have:=congrArg (fun l=>l[j]?) e
  simp [k1,k2] at this
  exact this
 by_cases ea:xs[j].1=ys[j].1
 ·rw [ea]; exact SeqAt.EqAt.same _
 ·obtain ⟨t1,f1⟩:=hx _ (List.getElem_mem k1)
  have t2:=hy _ (List.getElem_mem k2)
  obtain ⟨a1,v1,p1,_⟩:=I.tuple t1
  obtain ⟨a2,v2,p2,_⟩:=I.tuple t2
  rw [← ej] at v2
  have m1:=v1.length
  have m2:=v2.length
  have hh:=SeqAt.RcAt.tuples (A:=A) (e:=fun _=>true) (show s.heap.IsTuple _ a1.toArray from p1) (show s.heap.IsTuple _ a2.toArray from p2) hu fun i i1 i2=>by
   have i1':i<a1.length:=by simpa using i1
   have i2':i<a2.length:=by simpa using i2
   have i3:i<xs[j].2.length:=by omega
   obtain ⟨u,e1,q1⟩:=v1.get (i:=i) (x:=xs[j].2[i]) (by simp [i3])
   obtain ⟨v,e2,q2⟩:=v2.get (i:=i) (x:=xs[j].2[i]) (by simp [i3])
   have d1:a1.toArray[i]=u:=by
    have:a1[i]?=some a1[i]:=by simp [i1']
    rw [this] at e1; simpa using Option.some.inj e1
   have d2:a2.toArray[i]=v:=by
    have:a2[i]?=some a2[i]:=by simp [i2']
    rw [this] at e2; simpa using Option.some.inj e2
   have fl:=List.all_eq_true.mp f1 _ (List.getElem_mem i3)
   have:=Wh (A:=A.in1) (s:=s) q1 q2 fl fl
   rw [dZ fl] at this
   rw [d1,d2]
   exact this
  have et:((List.range (min a1.toArray.size a2.toArray.size)).all (fun _=>true)&&a1.toArray.size==a2.toArray.size)=true:=by
   have:a1.toArray.size=a2.toArray.size:=by simp; omega
   simp [this]
  rw [et] at hh
  exact SeqAt.EqAt.of_refs ea hh
theorem jP (hu:X.A.units+1<cLine):OpR X (compareOp .NotEq) (rNeT X.K true):=by
 intro pins s σ H x y v u Q I rx ry h
 obtain ⟨p,q,xs,ys,rfl,rfl,h1,h2,hx,hy,e,hq⟩:=h
 cases rx
 cases ry
 obtain ⟨us,r1,p1,_⟩:=I.list h1
 obtain ⟨ws,r2,p2,_⟩:=I.list h2
 have l1:=r1.length
 have l2:=r2.length
 have l3:=congrArg List.length e
 simp only [List.length_map] at l1 l2 l3
 refine SeqAt.RcNeAt.lists p1.isList p2.isList (by simp; omega) (Nat.lt_of_succ_lt hu) (Qy (A:=X.A.in1) hu I r1 r2 hx hy e) _ _ _ _ ?_
 rw [show ((List.range us.toArray.size).all fun _=>true)=true by simp]
 exact A8 I hq rfl
end
end L2

namespace L2
open PySem PySem.Spec PyProof.Rows PySem.W
namespace F2
end F2
section
variable {prog:Program} {w:World} {A:Around} {E:Value->Shared->Prop} {s:Shared} {a:Addr}
end
section
variable {prog:Program} {w:World} {K:Type} [DecidableEq K] {knd:KeyKind prog w K} {A:Around} {R:Result->Shared->Prop} {I ax d:Addr} {its:List Value} {ps:List (K×Value)}
variable {E:Value->Shared->Prop} {s:Shared}
end
section
variable {X:Cx} {pins:List (Addr×Obj)} {σ:St} {H:Hp} {s:Shared}
end
end L2

namespace L2
open PySem PySem.Spec PyProof.Rows PySem.W
section
variable {M:Model} {A:Around} {E:Value->Shared->Prop} {s:Shared}
def O6 (h:Heap) (e T:Addr) (cls:Value):Prop:=∃ oe vs oT ts,h.get? e=some oe∧oe.cls=cls∧oe.data=.fields vs∧vs[1]?=some (.ref T)∧T≠e∧h.get? T=some oT∧oT.data=.fields ts∧ts[3]?=some .none
theorem P1 {base:Heap} {env:Env} {outer:List Env} {L e:Addr} {oe:Obj} {vs:Array Value} {head:Value} {hadNext:Bool} {Q:Unit->Shared->Prop}
  (hfr:A.frames=some (env::outer)) (hl:s.heap.FunFrames base (env::outer)) (hf:env.frame=some L)
  (he:s.heap.get? e=some oe) (hd:oe.data=.fields vs) (hsz:1<vs.size)
  (h:∀ h' T',s.heap.objs.size≤T'->O6 h' e T' oe.cls->(∀ b o,s.heap.get? b=some o->b≠e->b∉frs (env::outer)->h'.get? b=some o)->(∀ b o,s.heap.get? b=some o->b≠e->∃ sl,h'.get? b=some {o with slots:=sl})->Q () {s with heap:=h'}) :
  wpAny M A (do let a ← frameOf env; let pl ← entryPlaceOf L hadNext; let b ← EntryCells.newEntry head a .none (rawInt L) .none pl; setField (.ref e) 1 b) (fun _ s'=>wpAny M A (setFlight (.ref e) none) Q E s') E s:=by
 have hene:e∉(env::outer).filterMap (·.frame):=fun hm=>by
  obtain ⟨_,o,ho,hnf⟩:=hl.mem hm
  rw [he] at ho; injection ho with ho; subst ho; exact hnf vs hd
 refine wpAny_bind (wpAny_frameOf_fun hfr hl hf fun h₁ hs₁=>?_)
 refine wpAny_bind (wpAny_entryPlaceOf fun pl hpl=>?_)
 unfold EntryCells.newEntry newFields
 refine wpAny_bind (wpAny_newObj_type ?_ (hpl.sizeOk5 _ _ _ _ _))
 have he₁:h₁.get? e=some oe:=(hs₁.2.1 e hene).trans he
 have he₂:=Heap.get?_push_of_some (h:=h₁) {cls:=.type "traceback",dict:=none,data:=.fields ([head,.ref L,.none,rawInt L,.none]++(if pl.isEmpty then List.replicate 6 Value.none else pl)).toArray} he₁
 refine wpAny_setField he₂ hd hsz ?_
 have hTe:h₁.objs.size≠e:=Nat.ne_of_gt (Heap.lt_size he₁)
 have hd₃:=Obj.data_mapFields hd (·.setIfInBounds 1 (Value.ref h₁.objs.size))
 have he₃:=Heap.get?_update_self (Obj.mapFields (·.setIfInBounds 1 (Value.ref h₁.objs.size))) he₂ (Obj.isFreed_of_fields hd₃)
 have hT₃:=(Heap.get?_update_other (h₁.push {cls:=.type "traceback",dict:=none,data:=.fields ([head,.ref L,.none,rawInt L,.none]++(if pl.isEmpty then List.replicate 6 Value.none else pl)).toArray})
  (Obj.mapFields (·.setIfInBounds 1 (Value.ref h₁.objs.size))) (Ne.symm hTe)).trans (Heap.get?_push_size h₁ rfl)
 unfold setFlight
 refine wpAny_bind (wpAny_field he₃ hd₃ (x:=.ref h₁.objs.size) (by simp [hsz]) ?_)
 rw [if_pos (show (Value.ref h₁.objs.size != Value.none)=true from by simp)]
 refine wpAny_setField hT₃ rfl (by simp only [List.size_toArray,List.length_append,List.length_cons,List.length_nil] <;> omega) ?_
 have keep:∀ b o,b≠e->h₁.get? b=some o ->
   (((h₁.push {cls:=.type "traceback",dict:=none,data:=.fields ([head,.ref L,.none,rawInt L,.none]++(if pl.isEmpty then List.replicate 6 Value.none else pl)).toArray}).update e (Obj.mapFields (·.setIfInBounds 1 (Value.ref h₁.objs.size)))).update h₁.objs.size
    (Obj.mapFields (·.setIfInBounds 3 ((none:Option Addr).elim Value.none fun f=>rawInt f)))).get? b=some o:=fun b o hbe hb=>by
  have hbT:h₁.objs.size≠b:=Nat.ne_of_gt (Heap.lt_size hb)
  rw [Heap.get?_update_other _ _ hbT,Heap.get?_update_other _ _ (Ne.symm hbe)]
  exact Heap.get?_push_of_some _ hb
 refine h _ h₁.objs.size (by rw [hs₁.1]; exact Nat.le_refl _) ?_ (fun b o hb hbe hbf=>keep b o hbe ((hs₁.2.1 b hbf).trans hb)) fun b o hb hbe=>?_
 ·refine ⟨_,_,_,_,?_,Obj.cls_mapFields _ _,hd₃,by simp [hsz],hTe,Heap.get?_update_self _ hT₃ (Obj.isFreed_of_fields (Obj.data_mapFields rfl _)),Obj.data_mapFields rfl _,by first | (simp; done) | (rcases hpl with rfl | ⟨_,_,_,_,_,_,_,rfl⟩ <;> simp)⟩
  rw [Heap.get?_update_other _ _ hTe]; exact he₃
 ·obtain ⟨sl,hs⟩:=hs₁.2.2 b o hb
  exact ⟨sl,keep b _ hbe hs⟩
theorem Ui {base:Heap} {env:Env} {outer:List Env} {L e:Addr} {oe:Obj} {vs:Array Value} {Q:Unit->Shared->Prop}
  (hfr:A.frames=some (env::outer)) (hl:s.heap.FunFrames base (env::outer)) (hf:env.frame=some L)
  (he:s.heap.get? e=some oe) (hd:oe.data=.fields vs) (h1:vs[1]?=some .none)
  (h:∀ h' T',s.heap.objs.size≤T'->O6 h' e T' oe.cls->(∀ b o,s.heap.get? b=some o->b≠e->b∉frs (env::outer)->h'.get? b=some o)->(∀ b o,s.heap.get? b=some o->b≠e->∃ sl,h'.get? b=some {o with slots:=sl})->Q () {s with heap:=h'}) :
  wpAny M A (noteFrame (.ref e) env) (fun _ s'=>wpAny M A (setFlight (.ref e) none) Q E s') E s:=by
 unfold noteFrame
 simp only [hf]
 refine wpAny_bind (wpAny_field he hd h1 ?_)
 rw [if_neg (by decide)]
 exact P1 hfr hl hf he hd (Array.getElem?_eq_some_iff.mp h1).1 h
theorem Oe {base:Heap} {env:Env} {outer:List Env} {L e T:Addr} {cls:Value} {Q:Unit->Shared->Prop}
  (hfr:A.frames=some (env::outer)) (hl:s.heap.FunFrames base (env::outer)) (hf:env.frame=some L) (ht:O6 s.heap e T cls)
  (h:∀ h' T',s.heap.objs.size≤T'->O6 h' e T' cls->(∀ b o,s.heap.get? b=some o->b≠e->b≠T->b∉frs (env::outer)->h'.get? b=some o)->(∀ b o,s.heap.get? b=some o->b≠e->b≠T->∃ sl,h'.get? b=some {o with slots:=sl})->Q () {s with heap:=h'}) :
  wpAny M A (noteFrame (.ref e) env) (fun _ s'=>wpAny M A (setFlight (.ref e) none) Q E s') E s:=by
 obtain ⟨oe,vs,oT,ts,he,hcls,hd,h1,hTe,hT,hdT,h3⟩:=ht
 subst hcls
 unfold noteFrame
 simp only [hf]
 refine wpAny_bind (wpAny_field he hd h1 ?_)
 rw [if_pos (show (Value.ref T != Value.none)=true from by simp)]
 refine wpAny_bind (wpAny_field hT hdT h3 ?_)
 rw [if_neg (show ¬ ((Value.none==rawInt L)=true) from by simp [rawInt])]
 refine wpAny_bind (wpAny_setField hT hdT (Array.getElem?_eq_some_iff.mp h3).1 ?_)
 have other:∀ b,b≠T->(s.heap.update T (Obj.mapFields (·.setIfInBounds 3 Value.none))).get? b=s.heap.get? b:=fun b hb=>Heap.get?_update_other _ _ (Ne.symm hb)
 have noRecord:∀ b o,s.heap.get? b=some o->(∀ vs,o.data≠.fields vs)->b≠T:=fun b o hb hnf q=>by
  rw [q,hT] at hb; injection hb with hb; subst hb; exact hnf ts hdT
 refine P1 hfr (hl.of_keeps fun b o hb hnf=>⟨o,(other b (noRecord b o hb hnf)).trans hb,rfl⟩) hf ((other e (Ne.symm hTe)).trans he) hd (Array.getElem?_eq_some_iff.mp h1).1
  fun h' T' hT' tr k1 k2=>h h' T' (by rw [← Heap.size_after_update s.heap T]; exact hT') tr (fun b o hb hbe hbT=>k1 b o ((other b hbT).trans hb) hbe) fun b o hb hbe hbT=>k2 b o ((other b hbT).trans hb) hbe
theorem Oj {env:Env} {e:Value} {Q:Unit->Shared->Prop} (h:wpAny M A (noteFrame e env) (fun _ s'=>wpAny M A (setFlight e none) Q E s') E s):wpAny M A (leaving env e) Q E s:=by
 unfold leaving
 exact wpAny_bind h
end
def CX1 (P:Program) (w:World):CXT:=fun outer H s E e s'=>∃ (a T C:Addr) (H':Hp),e=.ref a∧O6 s'.heap a T (.ref C)∧s.heap.get? a=none∧s.heap.get? T=none∧H' a=none∧H' T=none∧s'.os=s.os∧AllBare s'.gens∧Un (frs outer) [] H H' s.heap s'.heap∧HOk P w H' s'.heap∧E (.ref C) none H'
theorem B6.obj {P:Program} {w:World} {H:Hp} {h:Heap} {a:Addr} {o:HO} (x:B6 P w H h a o):∃ u,h.get? a=some u:=by
 cases o with
 | lst xs=>obtain ⟨_,_,_,_,e⟩:=x; exact ⟨_,e⟩
 | tup xs=>obtain ⟨_,_,_,o,e,_⟩:=x; exact ⟨_,e⟩
 | dK kvs=>obtain ⟨_,_,_,_,o,_,_,e,_⟩:=x; exact ⟨_,e⟩
 | dT kvs=>obtain ⟨_,_,_,_,o,_,_,e,_⟩:=x; exact ⟨_,e⟩
 | set S n=>obtain ⟨o,_,_,_,e,_⟩:=x; exact ⟨_,e⟩
 | ins C dx fs=>obtain ⟨_,_,_,e,_⟩:=x; exact ⟨_,e⟩
 | own y=>obtain ⟨_,e⟩:=x; exact ⟨_,e⟩
 | xd fs=>obtain ⟨_,⟨_,_,_,e,_⟩,_⟩:=x; exact ⟨_,e⟩
 | rng lo hi=>obtain ⟨_,_,_,e⟩:=x; exact ⟨_,e⟩
 | frz ob u=>obtain ⟨e,_⟩:=x; exact ⟨_,e⟩
 | tbl ps=>exact ⟨_,(show h.get? a=some _ from x)⟩
 | met f y=>exact ⟨_,(show h.get? a=some _ from x)⟩
 | ext φ=>obtain ⟨_,⟨_,e⟩,_⟩:=x; exact ⟨_,e⟩
theorem HOk.none_of {P:Program} {w:World} {H:Hp} {h:Heap} {a:Addr} (x:HOk P w H h) (e:h.get? a=none):H a=none:=by
 cases q:H a with
 | none=>rfl
 | some o=>
   obtain ⟨u,hu⟩:=(x a o q).obj
   rw [e] at hu; cases hu
theorem HOk.but {P:Program} {w:World} {H:Hp} {h h':Heap} (x:HOk P w H h) (k:∀ b u,H b≠none->h.get? b=some u->h'.get? b=some u):HOk P w H h':=fun a o e=>
 (x a o e).stay (fun b u hb q=>k b u (hb.elim (fun z=>by rw [z,e]; intro y; cases y) fun z=>by rw [z]; intro y; cases y) q) (fun _ q=>q) fun _ _ q=>q
section
variable {X:Cx} {pins:List (Addr×Obj)} {σ:St} {H:Hp} {s:Shared}
def Hk (X:Cx) (E:XK):Prop:=X.stack=X.env::X.outer∧X.env.frame=some X.env.locals∧X.ex=[]∧∀ e s',wpAny (model X.prog X.w) X.A (leaving X.env e) (fun _ s''=>CX1 X.prog X.w X.outer X.H₀ X.s₀ E e s'') (fun e' s''=>CX1 X.prog X.w X.outer X.H₀ X.s₀ E e' s'') s'->X.xe e s'
theorem Ao {P:Program} {w:World} {K:PySem.W.Frag} {mg:Str->Option Value} {base:Heap} {N:List Str} {qual:Str} {scope:Scope} {f:Addr} {cd:Value} {A:Around} {outer:List Env} {s:Shared} {H:Hp} {E:XK}:Hk (cxOf (CX1 P w) P w K mg base N qual scope f cd A outer s H E) E:=⟨rfl,rfl,rfl,fun _ _ h=>h⟩
theorem iN {E:XK} {a C:Addr} {h':Heap} {T':Addr} {B:Addr->Prop} (L:Hk X E) (I:Inv X pins σ H s) (na:X.s₀.heap.get? a=none) (hT':s.heap.objs.size≤T') (tr:O6 h' a T' (.ref C)) (fb:∀ b,B b->H b=none∧X.s₀.heap.get? b=none)
  (k1:∀ b o,s.heap.get? b=some o->b≠a->¬ B b->b∉frs (X.env::X.outer)->h'.get? b=some o) (k2:∀ b o,s.heap.get? b=some o->b≠a->¬ B b->∃ sl,h'.get? b=some {o with slots:=sl}) (fa:H a=none) (hE:E (.ref C) none H) :
  CX1 X.prog X.w X.outer X.H₀ X.s₀ E (.ref a) {s with heap:=h'}:=by
 have hl0:X.s₀.heap.get? X.env.locals=none:=Heap.get?_none_of_le I.ok.above
 have nT:X.s₀.heap.get? T'=none:=Heap.get?_none_of_le (Nat.le_trans I.sz hT')
 have stk:∀ b,b∈frs (X.env::X.outer)->b=X.env.locals∨b∈frs X.outer:=fun b hb=>by
  unfold frs at hb
  rw [List.filterMap_cons,L.2.1] at hb
  exact List.mem_cons.mp hb
 have fr0:∀ b∈frs (X.env::X.outer),H b=none:=fun b hb=>I.stkFree b (by rw [L.1]; exact hb)
 refine ⟨a,T',C,H,rfl,tr,na,nT,fa,I.hok.fresh hT',I.os,I.bare,?_,I.hok.but fun b u hb q=>?_,hE⟩
 ·have u0:=I.base
  rw [L.2.2.1] at u0
  refine ⟨fun b o e n hf _=>?_,fun b o e n hf _=>?_,fun b o e n _=>u0.free b o e n (by simp),fun b o e _=>?_,u0.tups,u0.frzs,u0.tbls⟩
  ·refine k1 b o (u0.keep b o e n hf (by simp)) (fun z=>by rw [z,na] at e; cases e) (fun z=>by rw [(fb b z).2] at e; cases e) fun z=>?_
   rcases stk b z with z | z
   ·rw [z,hl0] at e; cases e
   ·exact hf z
  ·obtain ⟨sl,q⟩:=u0.slot b o e n hf (by simp)
   obtain ⟨sl',q'⟩:=k2 b _ q (fun z=>by rw [z,na] at e; cases e) (fun z=>by rw [(fb b z).2] at e; cases e)
   exact ⟨sl',q'⟩
  ·obtain ⟨o',q⟩:=u0.there b o e (by simp)
   obtain ⟨sl,q'⟩:=k2 b _ q (fun z=>by rw [z,na] at e; cases e) (fun z=>by rw [(fb b z).2] at e; cases e)
   exact ⟨_,q'⟩
 ·exact k1 b u q (fun z=>hb (by rw [z]; exact fa)) (fun z=>hb (fb b z).1) fun z=>hb (fr0 b z)
theorem N9 {E:XK} (L:Hk X E):Hj (CX1 X.prog X.w) X E:=by
 intro pins σ H s e s' I h
 obtain ⟨a,T,C,H',rfl,tr,na,nT,fa,fT,os,bare,un,hok,hE⟩:=h
 have I':Inv X pins σ H' s':=I.call' os un hok bare fun b z=>absurd z (by simp)
 have up:∀ b,s.heap.get? b=none->X.s₀.heap.get? b=none:=fun b e=>by
  cases q:X.s₀.heap.get? b with
  | none=>rfl
  | some o=>
    have u0:=I.base
    rw [L.2.2.1] at u0
    obtain ⟨o',q'⟩:=u0.there b o q (by simp)
    rw [e] at q'; cases q'
 refine L.2.2.2 _ _ (Oj (Oe (base:=X.base) (outer:=X.outer) (by rw [I.ok.frames,L.1]) (by rw [← L.1]; exact I'.stack) L.2.1 tr fun h' T' hT' tr' k1 k2=>?_))
 exact iN (B:=fun b=>b=T) L I' (up a na) hT' tr' (fun b hb=>by rw [hb]; exact ⟨fT,up T nT⟩) k1 k2 fa hE
theorem Zj {K:Frag} {h:Heap} {C:Addr} {bmB:List Value} {newId:String} (X:K.In h) (q:excIn K C bmB newId=true) :
  ∃ (nm qn:Str) (N:Addr) (bs bm:List Value) (hd:Bool) (sn:List Str) (sub:List Value) (ab:Bool) (col:Option Bool) (dd:Option Addr) (k0 k1 k2 k3 k5:Option Value) (mN:Str->Option Value),h.get? C=some (excClassObj nm qn C N bs bm hd sn sub ab col dd k0 k1 k2 k3 k5 newId)∧h.Ns N mN∧mN "__init__"=none∧OwnTail h bmB bm:=by
 unfold excIn at q
 split at q
 ·rename_i dd cd sl ho
  split at q
  ·rename_i C' bm k0 k1 k2 k3 n k5 hm hs
   simp only [Bool.and_eq_true,beq_iff_eq,Bool.not_eq_true'] at q
   obtain ⟨⟨⟨⟨⟨rfl,rfl⟩,hdel⟩,ht⟩,hok⟩,hni⟩:=q
   obtain ⟨nm,bs,mro,ns,qn,hd,sn,sub,ab,col,del⟩:=cd
   dsimp only at hm hdel hok hni
   subst hm hdel
   have hsl:sl=#[k0,k1,k2,k3,some (.builtin n),k5]:=by
    obtain ⟨l⟩:=sl
    simp only at hs
    rw [hs]
   subst hsl
   exact ⟨nm,qn,ns,bs,bm,hd,sn,sub,ab,col,dd,k0,k1,k2,k3,k5,_,X _ _ ho,.of_isNs (isNs_of_in X hok),nsMap_none_of_in X hok hni,tail_of_in X ht⟩
  ·cases q
 ·cases q
abbrev bmVE:List Value:=[.type "ValueError",.type "Exception",.type "BaseException",.type "object"]
def jL (C:Addr) (E:XK) (t:TA):TS:=fun _ σ H=>t σ H fun vs H1=>vs.length≤sizeLine∧E (.ref C) none H1
theorem Ef {E:XK} {x:Str} {np cpos pos:Pos} {e₀:Expr} {rest:List Expr} {C:Addr} {t:TA} (L:Hk X E) (hc:X.calm=true) (hg:Gl X x) (hm:X.mg x=some (.ref C)) (hx:excIn X.K C bmVE "ValueError.__new__"=true) (ha:PA X (e₀::rest) t)
  (hdb:(x==("__debug__":Str))=false:=by decide) (he:starEach (e₀::rest) X.env=(false,eval e₀ X.env)::starEach rest X.env:=by rfl) (hpl:(backTo cpos (starEach rest X.env)).any (·.1)=false:=by rfl) :
  PS X (.Raise (some (.Call (.Name x np) (e₀::rest) [] cpos)) none pos) (jL C E t):=by
 intro pins s σ H D I h
 obtain ⟨nm,qn,N,bs,bm,hd,sn,sub,ab,col,dd,k0,k1,k2,k3,k5,mN,hC,hN,hni,TT⟩:=Zj I.ok.mod.kin hx
 refine wpAny_Raise_call_subT (C:=C) (nm:=nm) (q:=qn) (N:=N) (bs:=bs) (bm:=bm) (hdct:=hd) (sn:=sn) (sub:=sub) (ab:=ab) (col:=col) (dd:=dd) (k0:=k0) (k1:=k1) (k2:=k2) (k3:=k3) (k5:=k5)
  F.excBase_ValueError (mN:=mN) (TT.hasType F.excBase_ValueError.hasBase) (I.ok.hd hc) (by rw [he]; show (false||(backTo cpos (starEach rest X.env)).any (·.1))=false; rw [hpl]; rfl) hni (Fl I hg hm ⟨rfl,?_⟩ hdb)
 rw [he]
 refine Calls.evalArgs_plain ?_
 have hA:=ha cpos pins s σ H _ I h
 rw [he] at hA
 refine wpAny_mono hA (fun vs s2 ⟨us,H1,I1,r1,hl,hE⟩=>⟨rfl,by rw [← r1.length]; exact hl,I1.bk _ _ hC,hN.keeps I1.bk,TT.keeps I1.bk,fun h' e hm=>?_⟩) fun _ _ z=>z
 obtain ⟨t',he',_,_⟩:=hm.there
 have I2:Inv X pins σ H1 {s2 with heap:=h',toks:=s2.toks}:=I1.kept hm.keeps
 have ne:X.s₀.heap.get? e=none:=by
  cases q:X.s₀.heap.get? e with
  | none=>rfl
  | some o=>
    have u0:=I1.base
    rw [L.2.2.1] at u0
    obtain ⟨o',q'⟩:=u0.there e o q (by simp)
    rw [hm.new] at q'; cases q'
 refine L.2.2.2 _ _ (Oj (Ui (base:=X.base) (outer:=X.outer) (by rw [I.ok.frames,L.1]) (by rw [← L.1]; exact I2.stack) L.2.1 he' rfl rfl fun h2 T' hT' tr k1 k2=>?_))
 exact iN (B:=fun _=>False) L I2 ne hT' tr (fun b hb=>hb.elim) (fun b o q hb _=>k1 b o q hb) (fun b o q hb _=>k2 b o q hb) (I1.hok.none_of hm.new) hE
theorem Inv.noted {h':Heap} {P:List Addr} (I:Inv X pins σ H s) (hP:∀ b∈P,X.s₀.heap.get? b=none∧H b=none∧b≠X.env.locals∧(∀ x c,X.env.cells.lookup x=some c->c≠b)∧∀ p∈X.pn++pins,p.1≠b)
  (k1:∀ b o,s.heap.get? b=some o->b∉P->b∉frs X.stack->h'.get? b=some o) (k2:∀ b o,s.heap.get? b=some o->b∉P->∃ sl,h'.get? b=some {o with slots:=sl}):Inv X pins σ H {s with heap:=h'}:=by
 have nP:∀ b o,X.s₀.heap.get? b=some o->b∉P:=fun b o e z=>by rw [(hP b z).1] at e; cases e
 have nPx:∀ b o,X.s₀.heap.get? b=some o->b∉X.ex->b∉P++X.ex:=fun b o e hx z=>(List.mem_append.mp z).elim (nP b o e) hx
 have ok':({X with ex:=P++X.ex}:Cx).Ok:=
  ⟨I.ok.mod,I.ok.kind,I.ok.glob,I.ok.blt,I.ok.above,I.ok.inj,I.ok.has,I.ok.cab,I.ok.hd,I.ok.frames,I.ok.stk,fun b hb=>(List.mem_append.mp hb).elim (fun z=>⟨(hP b z).2.2.1,(hP b z).2.2.2.1⟩) (I.ok.exf b),I.ok.bs,I.ok.bsz,
    fun b o e hb=>(List.mem_append.mp hb).elim (nP b o (I.ok.bs b o e).1) (I.ok.noex b o e),fun b hb hf=>(List.mem_append.mp hb).elim (fun z=>by
     obtain ⟨_,o,ho,_⟩:=I.ok.funs.mem hf
     exact nP b o ho z) (fun z=>I.ok.exfs b z hf),I.ok.funs,I.ok.frf⟩
 have I':Inv {X with ex:=P++X.ex} pins σ H s:=⟨ok',I.os,I.bare,I.base.mono (fun _ h=>h) fun b hb=>List.mem_append_right _ hb,I.loc,I.cell,I.free,I.freeC,I.pin,I.hok,I.len⟩
 have u:Un (frs X.stack) P H H s.heap h':=⟨fun b o e _ hf hx=>k1 b o e hx hf,fun b o e _ _ hx=>k2 b o e hx,fun b o _ n _=>n,fun b o e hx=>by obtain ⟨sl,q⟩:=k2 b o e hx; exact ⟨_,q⟩,fun _ _ h=>h,fun _ _ _ h=>h,fun b ps h=>⟨#[],by rw [h]; simp⟩⟩
 have J:=I'.call' (s':={s with heap:=h'}) rfl u (I.hok.but fun b v hb q=>k1 b v q (fun z=>hb (hP b z).2.1) fun z=>hb (I.stkFree b z)) I.bare fun b hb=>⟨.inl (List.mem_append_left _ hb),(hP b hb).2.2.1,(hP b hb).2.2.2.1,(hP b hb).2.2.2.2⟩
 exact ⟨I.ok,J.os,J.bare,⟨fun b o e n hf hx=>J.base.keep b o e n hf (nPx b o e hx),fun b o e n hf hx=>J.base.slot b o e n hf (nPx b o e hx),fun b o e n hx=>J.base.free b o e n (nPx b o e hx),fun b o e hx=>J.base.there b o e (nPx b o e hx),J.base.tups,J.base.frzs,J.base.tbls⟩,J.loc,J.cell,J.free,J.freeC,J.pin,J.hok,J.len⟩
abbrev Cx.sub (X:Cx) (e:Value) (p:List (Addr×Obj)):Cx:={X with A:=X.A.mark (some e),calm:=false,pn:=p++X.pn,xe:=fun _ _=>False}
theorem Inv.mark {e:Value} {p:List (Addr×Obj)} (I:Inv X pins σ H s) (hp:∀ q∈p,s.heap.get? q.1=some q.2∧H q.1=none∧q.1≠X.env.locals∧q.1∉X.fs∧∀ v,q.2.data≠.cell v):Inv (X.sub e p) pins σ H s:=
 ⟨⟨I.ok.mod,I.ok.kind,I.ok.glob,I.ok.blt,I.ok.above,I.ok.inj,I.ok.has,I.ok.cab,fun h=>(by cases h),I.ok.frames,I.ok.stk,I.ok.exf,I.ok.bs,I.ok.bsz,I.ok.noex,I.ok.exfs,I.ok.funs,I.ok.frf⟩,
   I.os,I.bare,I.base,I.loc,I.cell,I.free,I.freeC,fun q hq=>by
    rw [List.append_assoc] at hq
    exact (List.mem_append.mp hq).elim (hp q) (I.pin q),I.hok,I.len⟩
theorem Inv.unmark {e:Value} {p:List (Addr×Obj)} (ok:X.Ok) (I:Inv (X.sub e p) pins σ H s):Inv X pins σ H s:=
 ⟨ok,I.os,I.bare,I.base,I.loc,I.cell,I.free,I.freeC,fun q hq=>I.pin q (by rw [List.append_assoc]; exact List.mem_append_right _ hq),I.hok,I.len⟩
theorem SP.unmark {e:Value} {p:List (Addr×Obj)} {D:Ends} {f:Flow} {s':Shared} (ok:X.Ok) (h:SP (X.sub e p) pins D f s'):SP X pins D f s':=by
 cases f with
 | next=>obtain ⟨σ',H',I,q⟩:=h; exact ⟨σ',H',I.unmark ok,q⟩
 | brk=>obtain ⟨σ',H',I,q⟩:=h; exact ⟨σ',H',I.unmark ok,q⟩
 | cont=>obtain ⟨σ',H',I,q⟩:=h; exact ⟨σ',H',I.unmark ok,q⟩
 | ret u=>obtain ⟨v,σ',H',I,r,q⟩:=h; exact ⟨v,σ',H',I.unmark ok,r,q⟩
theorem Uo {A:Around} {E:Value->Shared->Prop} {x:Str} {u:Value} {pos:Pos} {Q:Value->Shared->Prop} (I:Inv X pins σ H s) (hg:Gl X x) (hm:X.mg x=some u) (h:Q u s) (hd:(x==("__debug__":Str))=false:=by decide):wpAny (model X.prog X.w) A (eval (.Name x pos) X.env) Q E s:=
 Calls.Name_function_global I.ok.kind hg (Calls.loadGlobal_global (by rw [I.ok.glob]; exact I.mod.glob.keeps I.bk) hm h) hd
structure Held (X:Cx) (pins:List (Addr×Obj)) (H:Hp) (s:Shared) (a T C:Addr):Prop where
 tr:O6 s.heap a T (.ref C)
 na:X.s₀.heap.get? a=none
 nT:X.s₀.heap.get? T=none
 fa:H a=none
 fT:H T=none
 la:a≠X.env.locals
 lT:T≠X.env.locals
 ca:∀ x c,X.env.cells.lookup x=some c->c≠a
 cT:∀ x c,X.env.cells.lookup x=some c->c≠T
 pa:∀ p∈X.pn++pins,p.1≠a
 pT:∀ p∈X.pn++pins,p.1≠T
def PH (X:Cx) (hs:List ExceptHandler) (th:Addr->TS):Prop:=
 ∀ (pins:List (Addr×Obj)) (s:Shared) (σ:St) (H:Hp) (D:Ends) (a T C:Addr),Inv X pins σ H s->Held X pins H s a T C->th C D σ H->wpAny (model X.prog X.w) X.A (handleBy (.ref a) X.env hs) (SP X pins D) X.xe s
theorem bX:PH X [] (fun _ _ _ _=>False):=by
 intro pins s σ H D a T C I U h
 exact False.elim h
theorem Rt {x:Str} {np pos:Pos} {b₀:Stmt} {body:List Stmt} {rest:List ExceptHandler} {C1:Addr} {tb:TS} {th:Addr->TS} (hg:Gl X x) (hm:X.mg x=some (.ref C1)) (hb:∀ a,PSs (X.sub (.ref a) []) (b₀::body) tb) (hr:PH X rest th) (hdb:(x==("__debug__":Str))=false:=by decide) :
  PH X (.ExceptHandler (some (.Name x np)) none (b₀::body) pos::rest) (fun C D σ H=>∃ b,exmOne X.K (.ref C) (.ref C1)=some b∧if b=true then tb D σ H else th C D σ H):=by
 intro pins s σ H D a T C I U h
 obtain ⟨b,hx,h⟩:=h
 obtain ⟨oe,vs,oT,ts,he,hcls,hd,h1,hTe,hT,hdT,h3⟩:=id U.tr
 refine wpAny_handleBy_cons (codeAny_handlers_test (Uo I hg hm ?_ hdb)) (by intro q; cases q)
 have LT:Looks (model X.prog X.w) s.heap (typeOf (.ref a)) oe.cls:=(Looks.ld he).andThen .now
 rw [hcls] at LT
 refine (exm_one I.kIn LT hx).here ?_
 cases b with
 | false=>
   rw [if_neg Bool.false_ne_true] at h
   exact hr pins s σ H D a T C I U h
 | true=>
   rw [if_pos rfl] at h
   refine codeAny_handlers_suite (wpAny_setFlight_none he hd h1 hT hdT (Array.getElem?_eq_some_iff.mp h3).1 ?_)
   have I2:Inv X pins σ H {s with heap:=s.heap.update T (Obj.mapFields (·.setIfInBounds 3 .none))}:=I.noted (P:=[T]) (fun b hb=>by
     rw [List.mem_singleton.mp hb]
     exact ⟨U.nT,U.fT,U.lT,U.cT,U.pT⟩) (fun b o e hb _=>(Heap.get?_update_other _ _ (fun z=>hb (by rw [z]; simp))).trans e) fun b o e hb=>⟨o.slots,(Heap.get?_update_other _ _ (fun z=>hb (by rw [z]; simp))).trans e⟩
   exact wpAny_mono (hb a pins _ σ H D (I2.mark (by simp)) h) (fun f s' q=>SP.unmark I.ok q) fun _ _ z=>False.elim z
def sTry (sp:Sp) (dvs:List V) (t:TA) (th:Addr->TS):TS:=fun D σ H=>t σ H fun vs H1=>sp (vs++dvs) H1 (fun _ H2=>D.nx σ H2) (fun c _ H2=>∃ C,c=.ref C∧th C D σ H2)
theorem bT {k:Nat} {f:Addr} {fd:FuncData} {ps:List Str} {sp:Sp} {dvs:List V} {ds:List Value} {x:Str} {p pos1 pos2 pos:Pos} {e:Expr} {es:List Expr} {t:TA} {h₀:ExceptHandler} {hs:List ExceptHandler} {th:Addr->TS}
  (F:FnOk X.prog X.w X.K X.mg X.base (CX1 X.prog X.w) k f fd ps sp) (hr:Room k X.A) (hg:Gl X x) (hm:X.mg x=some (.ref f)) (hk:PySem.W.keepIn X.K (.ref f)=true) (hb:B8 X.K fd ps ds) (hd:Vals dvs ds) (ha:PA X.nox (e::es) t) (hh:PH X (h₀::hs) th)
  (stk:X.stack=X.env::X.outer∧X.env.frame=some X.env.locals∧X.ex=[])
  (hdb:(x==("__debug__":Str))=false:=by decide) (he:starEach (e::es) X.env=(false,eval e X.env)::starEach es X.env:=by rfl) (hpl:(backTo pos1 (starEach es X.env)).any (·.1)=false:=by rfl)
  (hsw:swapsWith (.Call (.Name x p) (e::es) [] pos1) none pos2.line X.env=pure false:=by rfl) :
  PS X (.Try [.Expr (.Call (.Name x p) (e::es) [] pos1) pos2] (h₀::hs) [] [] pos) (sTry sp dvs t th):=by
 intro pins s σ H D I h
 have body:wpAny (model X.prog X.w) X.A (exec (.Expr (.Call (.Name x p) (e::es) [] pos1) pos2) X.env) (fun f s1=>f=.next∧SP X pins D .next s1)
   (fun e s₁=>wpAny (model X.prog X.w) X.A (noteFrame e X.env) (fun _ s₂=>wpAny (model X.prog X.w) X.A (setFlight e none) (fun _ s₃=>wpAny (model X.prog X.w) X.A (handleBy e X.env (h₀::hs)) (SP X pins D) X.xe s₃) X.xe s₂) X.xe s₁) s:=by
  refine wpAny_Expr_any ?_ I.quiet hsw
  refine wpAny_Call_Name_kw (Fl I hg hm ?_ hdb)
  refine PySem.W.callWith_K (h₀:=X.base) I.ok.mod.kin hk (wpAny_mono (ha pos1 pins s σ H _ (I.wish _) h) (fun us s1 ⟨vs,H1,I1,r,q⟩=>⟨I1.kIn,?_⟩) fun _ _ z=>False.elim z) he hpl
  have I1:Inv X pins σ H1 s1:=I1.unwish
  have r2:Vals (vs++dvs) (us++ds):=r.append hd
  have hl:(us++ds).length=ps.length:=by rw [← r2.length]; exact F.len _ _ _ _ q
  refine wpAny_call (codeAny_mono (F.run X.A X.stack s1 H1 ⟨us,[]⟩ (us++ds) (vs++dvs) _ _ hr I1.env0 (hb s1 us I1.kIn hl) r2 q) fun r s' hq=>?_)
  cases r with
  | ok fl=>
    cases fl with
    | ret u=>
      obtain ⟨v,H2,I2,_,q2⟩:=I1.after hq
      exact ⟨rfl,σ,H2,I2,q2⟩
    | next=>exact False.elim hq
    | brk=>exact False.elim hq
    | cont=>exact False.elim hq
  | error e=>
    obtain ⟨a,T,C,H',rfl,tr,na,nT,fa,fT,os,bare,un,hok,C',ec,hth⟩:=hq
    cases ec
    have I':Inv X pins σ H' s':=I1.call' os un hok bare fun b z=>absurd z (by simp)
    have up:∀ b,s1.heap.get? b=none->X.s₀.heap.get? b=none:=fun b e=>by
     cases q:X.s₀.heap.get? b with
     | none=>rfl
     | some o=>
       have u0:=I1.base
       rw [stk.2.2] at u0
       obtain ⟨o',q'⟩:=u0.there b o q (by simp)
       rw [e] at q'; cases q'
    have nl:∀ b,s1.heap.get? b=none->b≠X.env.locals:=fun b e z=>by
     obtain ⟨m,⟨o,_,_,ho,_⟩,_⟩:=I1.loc
     rw [z,ho] at e; cases e
    have nc:∀ b,s1.heap.get? b=none->∀ x c,X.env.cells.lookup x=some c->c≠b:=fun b e x c hc z=>by
     obtain ⟨v,o,ho,_⟩:=I1.cell x c hc
     rw [z,e] at ho; cases ho
    have np:∀ b,s1.heap.get? b=none->∀ p∈X.pn++pins,p.1≠b:=fun b e p hp z=>by
     have:=(I1.pin p hp).1
     rw [z,e] at this; cases this
    refine Oe (base:=X.base) (outer:=X.outer) (by rw [I.ok.frames,stk.1]) (by rw [← stk.1]; exact I'.stack) stk.2.1 tr fun h' T' hT' tr' k1 k2=>?_
    have I3:Inv X pins σ H' {s' with heap:=h'}:=I'.noted (P:=[a,T]) (fun b hb=>by
      rcases List.mem_cons.mp hb with z | z
      ·rw [z]; exact ⟨up a na,fa,nl a na,nc a na,np a na⟩
      ·rw [List.mem_singleton.mp z]; exact ⟨up T nT,fT,nl T nT,nc T nT,np T nT⟩) (fun b o e hb hf=>k1 b o e (fun z=>hb (by simp [z])) (fun z=>hb (by simp [z])) (by rw [← stk.1]; exact hf)) fun b o e hb=>k2 b o e (fun z=>hb (by simp [z])) fun z=>hb (by simp [z])
    have nT':s1.heap.get? T'=none:=by
     cases q:s1.heap.get? T' with
     | none=>rfl
     | some o=>
       obtain ⟨o',q'⟩:=un.there T' o q (by simp)
       exact absurd (Heap.lt_size q') (Nat.not_lt.mpr hT')
    exact hh pins _ σ H' D a T' C I3 ⟨tr',up a na,up T' nT',fa,hok.fresh hT',nl a na,nl T' nT',nc a na,nc T' nT',np a na,np T' nT'⟩ hth
 refine wpAny_Try_except (wpAny_execs_cons (thn body fun f s1 q=>?_))
 obtain ⟨rfl,q⟩:=q
 exact wpAny_execs_nil (wpAny_execs_nil q)
end
end L2

namespace L2
open PySem PySem.Spec PySem.Calls PyProof.Rows PySem.W Builtin Builtin.ObjectAttr Builtin.Getset_descriptor
section
variable {prog:Program} {w:World} {A:Around} {E:Value->Shared->Prop} {h:Heap} {g:Array GenState} {d:Drawn} {t:Nat} {os:OsState} {a C:Addr} {o:Obj} {K:Frag}
structure XCls (K:Frag) (C:Addr):Prop where
 ga:findIn K (.ref C) "__getattribute__"=some (some (.builtin "BaseException.__getattribute__"))
 no:findIn K (.ref C) "__getattr__"=some none
 cl:findIn K (.ref C) "__class__"=some (some (.builtin "object.__class__"))
 be:subIn K (.ref C) (.type "BaseException")=some true
 ob:subIn K (.ref C) (.type "object")=some true
 is:(clsIn K C).isSome=true
theorem Jj {M:Model} (hx:h.get? a=some o) (hc:o.cls=.ref C):Looks M h (typeOf (.ref a)) (.ref C):=by
 have:Looks M h (typeOf (.ref a)) o.cls:=(Looks.ld hx).andThen .now
 rw [hc] at this
 exact this
theorem Wo {R:Result->Shared->Prop} {tp:Value} (X:K.In h) (Z:XCls K C) (hx:h.get? a=some o) (hc:o.cls=.ref C) (hq:R (.ok (.ret (.ref C))) ⟨h,g,d,t,os⟩) :
  codeAny (model prog w) A (.call (.builtin "getset_descriptor.__get__") ⟨[.builtin "object.__class__",.ref a,tp],[]⟩) R ⟨h,g,d,t,os⟩:=by
 have L0:=Jj (M:=model prog w) hx hc
 have L1:=looks_subIn (M:=model prog w) X Z.ob
 refine codeAny_call_builtin KF.slot_gs.plain KF.entry_gs (KF.slot_gs.check _ _ _ _ _ _ _ _ KF.type_class (KF.args_gs _ _ _) ?_)
 unfold Builtin.«getset_descriptor.__get__» descrGet
 rw [dga_obj]
 refine wpAny_bind (wpAny_pure ?_)
 unfold descrGetter descrCheckInstance descrNameAndClass isInstance
 simp only [KF.owner_class]
 repeat lk
 refine ⟨Code.quiet_builtin _ (by decide +kernel),codeAny_builtin KF.entry_class ?_⟩
 unfold Builtin.«object.__class__» shownTypeOf
 repeat lk
 exact hq
theorem Ta {tk:Tok} {Q:Fin->Shared->Prop} (X:K.In h) (Z:XCls K C) (hx:h.get? a=some o) (hc:o.cls=.ref C) (hq:Q (.done (.ret (.ref C))) ⟨h,g,d,t,os⟩) :
  wpAny (model prog w) A (Builtin.«object.__getattribute__» ⟨[.ref a,.str "__class__" tk],[]⟩) Q E ⟨h,g,d,t,os⟩:=by
 have L0:=Jj (M:=model prog w) hx hc
 have L1:=looks_findIn (M:=model prog w) X Z.cl
 have f5:=F.typeOf_object_class
 have hT5:(⟨h,g,d,t,os⟩:Shared).TypeIs (.builtin "object.__class__") "getset_descriptor":=F.typeOf_object_class
 have f6:=F.slot_gs_get.lookup
 have f7:=F.slot_gs_set.lookup
 repeat (any_goals (first | assumption | (with_reducible refine wpAny_loadPart_at hx ?_; rw [hc]) | with_reducible refine L1.at ?_ | wp_step))
 refine Wo X Z hx hc ?_
 repeat (any_goals (first | assumption | wp_step))
theorem Zw {M:Model} {nameV:Value} {Q:Unit->Shared->Prop} (X:K.In h) (Z:XCls K C) (hx:h.get? a=some o) (hc:o.cls=.ref C) (hq:Q () ⟨h,g,d,t,os⟩):wpAny M A (checkBuiltinCall "BaseException.__getattribute__" ⟨[.ref a,nameV],[]⟩) Q E ⟨h,g,d,t,os⟩:=by
 have hk:builtinKind "BaseException.__getattribute__"=some .slot:=by decide +kernel
 have hsplit:splitId "BaseException.__getattribute__"=some ("BaseException","__getattribute__"):=by decide +kernel
 have ha:=F.args_bexc_ga (.ref a) nameV
 have L1:=looks_subIn (M:=M) X Z.be
 simp only [checkBuiltinCall,hk,hsplit]
 refine wpAny_bind ?_
 ·unfold isInstance
  repeat (first | (with_reducible refine wpAny_loadPart_at hx ?_; rw [hc]) | with_reducible refine L1.at ?_ | wp_step)
  exact hq
theorem Uw {tk:Tok} {R:Result->Shared->Prop} (X:K.In h) (Z:XCls K C) (hx:h.get? a=some o) (hc:o.cls=.ref C) (hq:R (.ok (.ret (.ref C))) ⟨h,g,d,t,os⟩) :
  codeAny (model prog w) A (.call (.builtin "BaseException.__getattribute__") ⟨[.ref a,.str "__class__" tk],[]⟩) R ⟨h,g,d,t,os⟩:=
 codeAny_call_builtin (show plainId "BaseException.__getattribute__"=true by decide +kernel) F.entry_bexc_ga (Zw X Z hx hc (Ta X Z hx hc hq))
theorem Zv {tk:Tok} {Q:Value->Shared->Prop} (X:K.In h) (Z:XCls K C) (hx:h.get? a=some o) (hc:o.cls=.ref C) (hq:Q (.ref C) ⟨h,g,d,t,os⟩):wpAny (model prog w) A (getAttrBy (.ref a) (.str "__class__" tk) false) Q E ⟨h,g,d,t,os⟩:=by
 have L0:=Jj (M:=model prog w) hx hc
 have L1:=looks_findIn (M:=model prog w) X Z.ga
 have L2:=looks_findIn (M:=model prog w) X Z.no
 have f3:bindSpecial (.builtin "BaseException.__getattribute__") (.ref a)=pure (.builtin "BaseException.__getattribute__",[.ref a]):=F.excAttr_ValueError.ga.bind (.ref a)
 have hx2:(Value.builtin "BaseException.__getattribute__"==Value.builtin "object.__getattribute__")=false:=by decide +kernel
 have hx1:(onTheHeap (Value.ref C)&&Value.builtin "BaseException.__getattribute__"==Value.builtin "object.__getattribute__")=false:=by rw [hx2]; rfl
 repeat (any_goals (first | assumption | (with_reducible refine wpAny_loadPart_at hx ?_; rw [hc]) | with_reducible refine L1.at ?_ | with_reducible refine L2.at ?_ | wp_step))
 refine Uw X Z hx hc ?_
 repeat (any_goals (first | assumption | wp_step))
theorem Ux {Q:Option Value->Shared->Prop} (X:K.In h) (Z:XCls K C) (hx:h.get? a=some o) (hc:o.cls=.ref C) (hq:Q (some (.ref C)) ⟨h,g,d,t+1,os⟩):wpAny (model prog w) A (getAttr? (.ref a) "__class__") Q E ⟨h,g,d,t,os⟩:=by
 unfold getAttr? getAttrBy?
 refine wpAny_bind (wpAny_mkText (wpAny_bind (wpAny_attempt ?_)))
 exact Zv X Z hx hc (wpAny_pure hq)
theorem dG (Z:XCls K C):KitX K (.ref a) (.ref C) (fun h=>∃ o,h.get? a=some o∧o.cls=.ref C) where
 ty:=fun M h _ p=>by obtain ⟨o,hx,hc⟩:=p; exact Jj hx hc
 it:=fun M h X p=>by
  have hi:=Z.is
  unfold clsIn at hi
  split at hi
  ·rename_i ho
   intro A' Q' E' s' k q
   unfold isType loadHead
   exact wpAny_bind (wpAny_loadPart (k _ _ (X _ _ ho)) (wpAny_pure q))
  ·cases hi
 ne:=fun h tp dd its n sl X e=>by
  rw [beq_eq_false_iff_ne]
  intro z
  have hi:=Z.is
  cases z
  unfold clsIn at hi
  split at hi
  ·rename_i ho
   have:=X _ _ ho
   rw [e] at this
   cases this
  ·cases hi
 ca:=fun {prog w A E Q s} X p hq=>by
  obtain ⟨o,hx,hc⟩:=p
  obtain ⟨h,g,d,t,os⟩:=s
  exact Ux X Z hx hc hq
end
section
variable {X:Cx} {pins:List (Addr×Obj)} {σ:St} {H:Hp} {s:Shared}
theorem Z0 {a C:Addr} {oe:Obj} (hp:(a,oe)∈X.pn) (hc:oe.cls=.ref C) (Z:XCls X.K C):D4 X (.builtin "isinstance") (fun us H Q=>∃ (c:V) (b:Bool),us=[.ref a,c]∧((∃ T,c=.ty T∧kitOne X.K (.ref C) (.type T)=some b)∨∃ C1,c=.ref C1∧kitOne X.K (.ref C) (.ref C1)=some b)∧Q (.bl b) H):=by
 intro pins s σ H us vs Q I r h
 obtain ⟨c,b,rfl,hk,q⟩:=h
 obtain ⟨u,v,rfl,ru,rv⟩:=Th r
 cases ru
 have hx:=(I.pin (a,oe) (List.mem_append_left _ hp)).1
 have key:∀ v',kitOne X.K (.ref C) v'=some b->wpAny (model X.prog X.w) X.A (call (.builtin "isinstance") [.ref a,v']) (EP X pins σ Q) X.xe s:=fun v' e=>
  kia_one (dG Z) I.kIn ⟨oe,hx,hc⟩ e (by intro z; cases z) fun tk=>⟨.bl b,H,I.tok _,rfl,q⟩
 rcases hk with ⟨T,rfl,e⟩ | ⟨C1,rfl,e⟩
 ·cases (show v=Value.type T from rv)
  exact key _ e
 ·cases (show v=Value.ref C1 from rv)
  exact key _ e
theorem Inv.goes {i:Nat} {n:Str} {h':Heap} {v:Option Value} {m:Str->Option Value} {t':Nat} (I:Inv X pins σ H s) (hN:X.N.Nodup) (hi:X.N[i]?=some n) (hn:s.heap.Ns X.env.locals m) (hn':h'.Ns X.env.locals (fun x=>if x=n then v else m x)) (hs:Heap.SameBut X.env.locals s.heap h') :
  Inv X pins (σ.set i none) H {s with heap:=h',toks:=t'}:=by
 have neL:∀ b o,X.s₀.heap.get? b=some o->b≠X.env.locals:=fun b o e=>Nat.ne_of_lt (Nat.lt_of_lt_of_le (Heap.lt_size e) I.ok.above)
 refine ⟨I.ok,I.os,I.bare,⟨fun b o e n' hb hx=>(hs.2 b (neL b o e)).trans (I.base.keep b o e n' hb hx),fun b o e n' hb hx=>?_,I.base.free,fun b o e hx=>?_,I.base.tups,I.base.frzs,I.base.tbls⟩,?_,fun x c e=>?_,I.free,I.freeC,fun p hp=>?_,I.hok.but fun b u hb q=>(hs.2 b fun z=>hb (by rw [z]; exact I.free)).trans q,by rw [List.length_set]; exact I.len⟩
 ·obtain ⟨sl,q⟩:=I.base.slot b o e n' hb hx
  exact ⟨sl,(hs.2 b (neL b o e)).trans q⟩
 ·obtain ⟨o',q⟩:=I.base.there b o e hx
  exact ⟨o',(hs.2 b (neL b o e)).trans q⟩
 ·obtain ⟨m0,hm0,hl⟩:=I.loc
  refine ⟨_,hn',fun j y w' e1 e2 e3=>?_⟩
  have hij:i≠j:=fun z=>by
   subst z
   by_cases c:i<σ.length
   ·rw [List.getElem?_set_self c] at e2; cases e2
   ·rw [List.getElem?_eq_none (by rw [List.length_set]; omega)] at e2; cases e2
  have e2':σ[j]?=some (some w'):=by rw [List.getElem?_set_ne hij] at e2; exact e2
  obtain ⟨u,r,l⟩:=hl j y w' e1 e2' e3
  have hyn:y≠n:=fun z=>by
   subst z
   have h1:=(List.getElem?_eq_some_iff.mp hi)
   have h2:=(List.getElem?_eq_some_iff.mp e1)
   obtain ⟨a1,b1⟩:=h1
   obtain ⟨a2,b2⟩:=h2
   rcases Nat.lt_or_gt_of_ne hij with q | q
   ·exact List.pairwise_iff_getElem.mp hN i j a1 a2 q (by rw [b1,b2])
   ·exact List.pairwise_iff_getElem.mp hN j i a2 a1 q (by rw [b1,b2])
  refine ⟨u,r,?_⟩
  rcases l with ⟨k,e⟩ | ⟨k,c,e,v',hv⟩
  ·refine .inl ⟨k,?_⟩
   show (if y=n then v else m y)=some u
   rw [if_neg hyn]
   have:m0 y=m y:=by
    obtain ⟨o1,es1,ep1,ho1,hd1,_,hf1⟩:=hm0
    obtain ⟨o2,es2,ep2,ho2,hd2,_,hf2⟩:=hn
    rw [ho1] at ho2; cases ho2
    rw [hd1] at hd2; cases hd2
    rw [← hf1,← hf2]
   rw [← this]; exact e
  ·exact .inr ⟨k,c,e,v',(hs.2 c (I.cne y c e)).trans hv.1,hv.2⟩
 ·obtain ⟨v',o,ho,hd⟩:=I.cell x c e
  exact ⟨v',o,(hs.2 c (I.cne x c e)).trans ho,hd⟩
 ·obtain ⟨e,n',ne,nf,d⟩:=I.pin p hp
  exact ⟨(hs.2 p.1 ne).trans e,n',ne,nf,d⟩
def Ends.goes (D:Ends) (i:Nat):Ends:=⟨fun σ H=>D.nx (σ.set i none) H,D.rt,fun σ H=>D.bk (σ.set i none) H,fun σ H=>D.ct (σ.set i none) H⟩
theorem ph_as {x n:Str} {i:Nat} {np pos:Pos} {b₀:Stmt} {body:List Stmt} {rest:List ExceptHandler} {C1:Addr} {tb:Addr->Addr->TS} {th:Addr->TS} (hg:Gl X x) (hm:X.mg x=some (.ref C1)) (hN:X.N.Nodup) (hi:X.N[i]?=some n) (hl:X.env.kindOf n=some .local) (hln:X.env.scope.names.lookup n=some .local)
  (hb:∀ (a C:Addr) (oe:Obj),oe.cls=.ref C->PSs (X.sub (.ref a) [(a,oe)]) (b₀::body) (tb a C)) (hr:PH X rest th) (hdb:(x==("__debug__":Str))=false:=by decide) :
  PH X (.ExceptHandler (some (.Name x np)) (some n) (b₀::body) pos::rest) (fun C D σ H=>∃ b,exmOne X.K (.ref C) (.ref C1)=some b∧if b=true then ∀ a,tb a C (D.goes i) (σ.set i (some (.ref a))) H else th C D σ H):=by
 intro pins s σ H D a T C I U h
 obtain ⟨b,hx,h⟩:=h
 obtain ⟨oe,vs,oT,ts,he,hcls,hd,h1,hTe,hT,hdT,h3⟩:=id U.tr
 refine wpAny_handleBy_cons (codeAny_handlers_test (Uo I hg hm ?_ hdb)) (by intro q; cases q)
 have LT:=Jj (M:=model X.prog X.w) he hcls
 refine (exm_one I.kIn LT hx).here ?_
 cases b with
 | false=>
   rw [if_neg Bool.false_ne_true] at h
   exact hr pins s σ H D a T C I U h
 | true=>
   rw [if_pos rfl] at h
   refine codeAny_handlers_suite_as (wpAny_setFlight_none he hd h1 hT hdT (Array.getElem?_eq_some_iff.mp h3).1 ?_)
   have I2:Inv X pins σ H {s with heap:=s.heap.update T (Obj.mapFields (·.setIfInBounds 3 .none))}:=I.noted (P:=[T]) (fun b hb=>by
     rw [List.mem_singleton.mp hb]
     exact ⟨U.nT,U.fT,U.lT,U.cT,U.pT⟩) (fun b o e hb _=>(Heap.get?_update_other _ _ (fun z=>hb (by rw [z]; simp))).trans e) fun b o e hb=>⟨o.slots,(Heap.get?_update_other _ _ (fun z=>hb (by rw [z]; simp))).trans e⟩
   have he2:(s.heap.update T (Obj.mapFields (·.setIfInBounds 3 .none))).get? a=some oe:=(Heap.get?_update_other _ _ hTe).trans he
   have nfs:a∉X.fs:=fun z=>by
    obtain ⟨_,o,ho,_⟩:=I.ok.funs.mem z
    rw [U.na] at ho; cases ho
   have I3:Inv (X.sub (.ref a) [(a,oe)]) pins σ H {s with heap:=s.heap.update T (Obj.mapFields (·.setIfInBounds 3 .none))}:=I2.mark fun q hq=>by
    rw [List.mem_singleton.mp hq]
    exact ⟨he2,U.fa,U.la,nfs,fun v z=>by rw [hd] at z; cases z⟩
   refine Jl (X:=X.sub (.ref a) [(a,oe)]) I3 hN hi (.inl hln) (v:=.ref a) rfl (fun s4 I4=>?_) (.inr hln)
   refine wpAny_mono (hb a C oe hcls pins s4 _ H (D.goes i) I4 (h a)) (fun f s5 q=>?_) fun _ _ z=>False.elim z
   have q:SP X pins (D.goes i) f s5:=SP.unmark I.ok q
   have fin:∀ (σ':St) (H':Hp) (R:Shared->Prop),Inv X pins σ' H' s5->(∀ s6,Inv X pins (σ'.set i none) H' s6->R s6)->wpAny (model X.prog X.w) X.A (do bindName X.env n .none; unbindBehindTheSuite X.env n pos) (fun _ s6=>R s6) X.xe s5:=fun σ' H' R I5 k=>by
    obtain ⟨m,hn,_⟩:=id I5.loc
    refine wpAny_nameGoes_keeps hl hn (by rw [I.ok.kind]; rfl) fun h' v hn' hs=>?_
    exact k _ (I5.goes hN hi hn hn' hs)
   cases f with
   | next=>obtain ⟨σ',H',I5,q5⟩:=q; exact fin σ' H' _ I5 fun s6 I6=>⟨_,H',I6,q5⟩
   | brk=>obtain ⟨σ',H',I5,q5⟩:=q; exact fin σ' H' _ I5 fun s6 I6=>⟨_,H',I6,q5⟩
   | cont=>obtain ⟨σ',H',I5,q5⟩:=q; exact fin σ' H' _ I5 fun s6 I6=>⟨_,H',I6,q5⟩
   | ret u=>obtain ⟨v,σ',H',I5,r5,q5⟩:=q; exact fin σ' H' _ I5 fun s6 I6=>⟨v,_,H',I6,r5,q5⟩
end
end L2

namespace L2
open PySem PySem.Spec PyProof.Rows
def FnX (P:Program) (w:World) (K:PySem.W.Frag) (mg:Str->Option Value) (base:Heap) (k:Nat) (f:Addr) (ps:List Str) (sp:Sp):Prop:=∃ fd,FnOk P w K mg base (CX1 P w) k f fd ps sp∧B8 K fd ps []∧PySem.W.keepIn K (.ref f)=true
section
variable {P:Program} {w:World} {K:PySem.W.Frag} {mg:Str->Option Value} {base:Heap}
theorem FunB.okX {x qual:Str} {st:Stmt} {f:Addr} {N ps:List Str} {k:Nat} {sp:Sp} (F:FunB K x qual st f ps) (S:Al N ps (defScope st)) (len:∀ vs H Q E,sp vs H Q E->vs.length=ps.length)
  (hbody:∀ (cdv:Value) (A:Around) (outer:List Env) (s:Shared) (H:Hp) (vs:List V) (Q:VK) (E:XK),Room k (A.deeper (envOfC qual (defScope st) s.heap.objs.size f cdv))->sp vs H Q E ->
    ∃ t,PSs (cxOf (CX1 P w) P w K mg base N qual (defScope st) f cdv A outer s H E) (defBody st) t∧t {nx:=fun _ H'=>Q .non H',rt:=Q} (C9 N vs) H):FnX P w K mg base (k+1) f ps sp:=by
 obtain ⟨fd,F,b⟩:=F
 refine ⟨fd,?_,b,F.kp⟩
 obtain ⟨oc,od,kV,doc,pm,an,cdv,ct,osl,rfl,lk,hcd⟩:=F.ex
 exact Xr lk hcd S len fun A outer s H vs Q E hr hsp=>hbody cdv A outer s H vs Q E hr hsp
theorem FunD.okX {x qual:Str} {st:Stmt} {f:Addr} {fd:FuncData} {ds:List Value} {N ps:List Str} {k:Nat} {sp:Sp} (F:FunD K x qual st f fd ds) (S:Al N ps (defScope st)) (len:∀ vs H Q E,sp vs H Q E->vs.length=ps.length)
  (hbody:∀ (cdv:Value) (A:Around) (outer:List Env) (s:Shared) (H:Hp) (vs:List V) (Q:VK) (E:XK),Room k (A.deeper (envOfC qual (defScope st) s.heap.objs.size f cdv))->sp vs H Q E ->
    ∃ t,PSs (cxOf (CX1 P w) P w K mg base N qual (defScope st) f cdv A outer s H E) (defBody st) t∧t {nx:=fun _ H'=>Q .non H',rt:=Q} (C9 N vs) H):FnOk P w K mg base (CX1 P w) (k+1) f fd ps sp:=by
 obtain ⟨oc,od,T,kV,doc,pm,an,cdv,ct,osl,ot,tod,n,tsl,rfl,lk,hcd,lt⟩:=F.ex
 exact Xr lk hcd S len fun A outer s H vs Q E hr hsp=>hbody cdv A outer s H vs Q E hr hsp
end
section
variable {X:Cx} {k:Nat} {f C:Addr} {ps:List Str} {sp:Sp} {x m:Str} {p pos apos:Pos} {e o:Expr} {es:List Expr} {ta:TE} {t:TA} {E:XK}
theorem Bx (L:Hk X E) (F:FnX X.prog X.w X.K X.mg X.base k f ps sp) (hr:Room k X.A) (hm:X.mg x=some (.ref f)) (ha:PA X (e::es) t) (hg:Gl X x:=by rfl) (hdb:(x==("__debug__":Str))=false:=by decide)
  (he:starEach (e::es) X.env=(false,eval e X.env)::starEach es X.env:=by rfl) (hpl:(backTo pos (starEach es X.env)).any (·.1)=false:=by rfl):PE X (.Call (.Name x p) (e::es) [] pos) (Tk sp [] E t):=by
 obtain ⟨fd,F,hb,hk⟩:=F
 exact Xk F hr hg hm hk hb .nil (N9 L) ha hdb he hpl
theorem Cd {pl:Sem Bool} (L:Hk X E) (he:PE X o ta) (c:Cls X.K C) (hm:Meth X.K C m f) (F:FnX X.prog X.w X.K X.mg X.base k f ps sp) (hr:Room k X.A) (ha:PA X (e::es) t)
  (ht:eval (.Call (.Attribute o m apos) (e::es) [] pos) X.env=(do
    let ov ← eval o X.env
    standAt apos.atName
    let (f,first) ← holding [ov] (getMethod ov m pl)
    callWith pos f first (backTo pos (starEach (e::es) X.env)) (backToKw pos (keywordEach [] X.env))):=by rfl)
  (hst:starEach (e::es) X.env=(false,eval e X.env)::starEach es X.env:=by rfl) (hpl:(backTo pos (starEach es X.env)).any (·.1)=false:=by rfl):PE X (.Call (.Attribute o m apos) (e::es) [] pos) (Tj C m sp [] E ta t):=by
 obtain ⟨fd,F,hb,hk⟩:=F
 exact Ff (pl:=pl) he c hm F hr hb .nil (N9 L) ha hst hpl ht
theorem Xi {pl:Sem Bool} (L:Hk X E) (hm:X.mg x=some (.ref C)) (c:Pb X.K C m f) (F:FnX X.prog X.w X.K X.mg X.base k f ps sp) (hr:Room k X.A) (ha:PA X (e::es) t) (hg:Gl X x:=by rfl) (hdb:(x==("__debug__":Str))=false:=by decide)
  (ht:eval (.Call (.Attribute (.Name x p) m apos) (e::es) [] pos) X.env=(do
    let ov ← eval (.Name x p) X.env
    standAt apos.atName
    let (f,first) ← holding [ov] (getMethod ov m pl)
    callWith pos f first (backTo pos (starEach (e::es) X.env)) (backToKw pos (keywordEach [] X.env))):=by rfl)
  (hst:starEach (e::es) X.env=(false,eval e X.env)::starEach es X.env:=by rfl) (hpl:(backTo pos (starEach es X.env)).any (·.1)=false:=by rfl):PE X (.Call (.Attribute (.Name x p) m apos) (e::es) [] pos) (Tk sp [] E t):=by
 obtain ⟨fd,F,hb,hk⟩:=F
 intro pins s σ H Q I h
 refine PySem.W.methodCall_KW (pl:=pl) (Fl I hg hm ?_ hdb) ht
 refine PySem.W.method_cls I.kIn c.sp (PySem.W.cls_value I.kIn c.rd c.fc rfl ?_)
 refine PySem.W.callWith_K (first:=[]) (h₀:=X.base) I.ok.mod.kin hk (thn (ha pos pins _ σ H _ (I.tok _) h) fun us s2 ⟨vs,H2,I2,r,q2⟩=>⟨I2.kIn,?_⟩) hst hpl
 exact Nz F hr hb .nil (N9 L) I2 r q2
theorem Dx (L:Hk X E) (M:Mk X.K C f) (F:FnX X.prog X.w X.K X.mg X.base k f ps sp) (hr:Room (k+1) X.A) (hm:X.mg x=some (.ref C)) (ha:PA X (e::es) t) (hg:Gl X x:=by rfl) (hdb:(x==("__debug__":Str))=false:=by decide)
  (he:starEach (e::es) X.env=(false,eval e X.env)::starEach es X.env:=by rfl) (hpl:(backTo pos (starEach es X.env)).any (·.1)=false:=by rfl):PE X (.Call (.Name x p) (e::es) [] pos) (iD C sp [] E t):=by
 obtain ⟨fd,F,hb,hk⟩:=F
 exact Fg M F hr hg hm hb .nil (N9 L) ha hdb he hpl
end
section
variable {X:Cx}
def repS (x:Str) (n:Nat):Str:=⟨(List.replicate n x.cps).foldl (·++·) #[]⟩
theorem Qd:∀ (l:List (Array Nat)) (a:Array Nat),(l.foldl (·++·) a).size=a.size+(l.map (·.size)).sum
 | [],a=>by simp
 | b::r,a=>by rw [List.foldl_cons,Qd r,Array.size_append,List.map_cons,List.sum_cons]; omega
theorem T7 (x:Str) (n:Nat):(repS x n).length=n * x.length:=by
 unfold repS
 show Array.size _=_
 rw [Qd,List.map_replicate,List.sum_replicate_nat]
 simp only [List.size_toArray,List.length_nil,Nat.zero_add]
 rfl
theorem gF:OpR X (binaryOp .Mult) (fun x y H Q=>∃ (a:Str) (n:Int),x=.str a∧y=.int n∧2≤n∧n≤1000∧1≤a.length∧a.length≤1000∧Q (.str (repS a n.toNat)) H):=by
 intro pins s σ H x y v u Q I rx ry h
 obtain ⟨a,n,rfl,rfl,n1,n2,l1,l2,q⟩:=h
 obtain ⟨t,rfl⟩:=rx
 obtain ⟨t',rfl⟩:=ry
 have hz:a.length * n.toNat≤1000000:=Nat.le_trans (Nat.mul_le_mul l2 (show n.toNat≤1000 by omega)) (by decide)
 have e1:(n==1||a.length==0)=false:=by
  have a1:(n==1)=false:=by rw [beq_eq_false_iff_ne]; omega
  have a2:(a.length==0)=false:=by rw [beq_eq_false_iff_ne]; omega
  rw [a1,a2]; rfl
 refine PySem.P.mul_str ?_ (fun _ _=>?_) (fun _ _=>?_) ?_
 ·rw [decide_eq_false (by omega),decide_eq_false (by omega)]; rfl
 ·have h1:(2 ^ 63 - 1:Int) / n ≥ (2 ^ 63 - 1) / 1000:=by
   rw [ge_iff_le,Int.le_ediv_iff_mul_le (by omega)]
   have:(2 ^ 63 - 1:Int) / 1000 * n≤(2 ^ 63 - 1) / 1000 * 1000:=Int.mul_le_mul_of_nonneg_left n2 (by decide)
   omega
  omega
 ·unfold Builtin.Str.tooLong
  exact decide_eq_false (Nat.not_lt.mpr (Nat.le_trans hz (by decide)))
 ·rw [if_neg (by omega),if_neg (by rw [e1]; decide)]
  exact ⟨Nat.le_trans (by rw [show (⟨(List.replicate n.toNat a.cps).foldl (·++·) #[]⟩:Str)=repS a n.toNat from rfl,T7,Nat.mul_comm]; exact hz) (by decide),.str _,H,I.tok _,⟨_,rfl⟩,q⟩
end
end L2

namespace Lk
open PySem L2
abbrev Jr:Stmt:=top 6
abbrev L5:Stmt:=top 7
abbrev L7:Stmt:=top 8
abbrev Hs:Stmt:=top 9
abbrev Jt:Stmt:=top 10
abbrev L6:Stmt:=top 13
abbrev Ny:Stmt:=top 15
abbrev bN:Stmt:=top 16
structure Blt (mg:Str->Option Value):Prop where
 isi:mg "isinstance"=none
 len:mg "len"=none
 all_:mg "all"=none
 min_:mg "min"=none
 range:mg "range"=none
 list:mg "list"=none
 sorted:mg "sorted"=none
 enum:mg "enumerate"=none
 int:mg "int"=none
 bool:mg "bool"=none
 str:mg "str"=none
theorem Wa (K:PySem.W.Frag):PySem.W.kitOne K (.type "int") (.type "int")=some true:=by
 first | rfl | decide +kernel
theorem R9 (K:PySem.W.Frag):PySem.W.kitOne K (.type "int") (.type "bool")=some false:=by
 first | rfl | decide +kernel
theorem Wb (K:PySem.W.Frag):PySem.W.kitOne K (.type "bool") (.type "bool")=some true:=by
 first | rfl | decide +kernel
theorem kB (K:PySem.W.Frag):PySem.W.kitOne K (.type "bool") (.type "int")=some true:=by
 first | rfl | decide +kernel
theorem dH (K:PySem.W.Frag):PySem.W.kitOne K (.type "str") (.type "str")=some true:=by
 first | rfl | decide +kernel
section
variable {X:Cx}
theorem Fh {a:Expr} {ta:TE} {T:String} {x:Str} {p p2 pos:Pos} (hm:X.mg "isinstance"=none) (hm2:X.mg x=none) (ha:PE X a ta) (hb:bootBuiltins x=some (.type T)) (hg2:Gl X x:=by rfl) (hn2:x≠"__name__":=by decide) (hd2:(x==("__debug__":Str))=false:=by decide) (hg:Gl X "isinstance":=by rfl)
  (hs:starEach (a::[.Name x p2]) X.env=(false,eval a X.env)::starEach [.Name x p2] X.env:=by rfl) (hpl:(backTo pos (starEach [.Name x p2] X.env)).any (·.1)=false:=by rfl) :
  PE X (.Call (.Name "isinstance" p) [a,.Name x p2] [] pos) (tCB (rIsi X.K) (Wv ta (Wv (tC (.ty T)) tNil))):=
 Bi eS hg hm PyProof.Rows.boot_isinstance (Aa ha (Aa (Xl hg2 hm2 hb rfl hn2 hd2) Ac) hs) (by decide) (by decide) hs hpl
end
section
variable {P:Program} {w:World} {K:PySem.W.Frag} {mg:Str->Option Value} {base:Heap}
def E7:Sp:=fun vs H Q _=>∃ v lo hi:Int,vs=[.int v,.int lo,.int hi]∧Q (.bl (decide (lo≤v)&&decide (v≤hi))) H
theorem W7:Al ["value","least","most"] ["value","least","most"] (defScope Jr):=⟨rfl,rfl,rfl,by decide +kernel,rfl,by decide +kernel,by decide +kernel⟩
theorem cE {f:Addr} (F:FunB K "is_whole_within" "is_whole_within" Jr f ["value","least","most"]) (B:Blt mg):FnP P w K mg base 1 f ["value","least","most"] E7:=by
 refine F.ok W7 (fun vs H Q E h=>?_) (fun cdv A outer s H vs Q E hr h=>?_)
 ·obtain ⟨v,lo,hi,rfl,_⟩:=h
  rfl
 ·obtain ⟨v,lo,hi,rfl,k⟩:=h
  refine ⟨_,Ad (Az (PW.pt (K8 (Bp (Fh B.isi B.bool (pv 0) PyProof.Rows.boot_bool)) (Iy (Bv (Bp (Fh B.isi B.int (pv 0) PyProof.Rows.boot_int)))))) (Af (As C3)) Av)
   (Af (As (E2 Jy Jy (pv 1) (pv 0) (pv 2)))),?_⟩
  refine ⟨_,rfl,_,"bool",_,_,rfl,.int v,R9 K,_,rfl,?_⟩
  refine iteF ?_
  refine ⟨_,rfl,_,"int",_,_,rfl,.int v,Wa K,_,rfl,?_⟩
  refine iteF ?_
  refine ⟨_,rfl,_,rfl,_,_,rfl,rfl,_,rfl,?_⟩
  refine ite2 (fun h1=>?_) (fun h1=>?_)
  ·refine ⟨_,rfl,_,_,rfl,rfl,?_⟩
   rw [of_decide_eq_true h1 |> fun z=>decide_eq_true z,Bool.true_and] at k
   exact k
  ·have h1':decide (lo≤v)=false:=by simpa using h1
   rw [h1',Bool.false_and] at k
   exact k
def A5 (x:Str):Prop:=1≤x.length∧x.length≤40∧∀ c∈x.cps.toList,32≤c∧c≤126
def aL:Sp:=fun vs H Q _=>∃ x:Str,vs=[.str x]∧A5 x∧∀ H',Same H H'->Q (.bl true) H'
theorem bA:Al ["value"] ["value"] (defScope L5):=⟨rfl,rfl,rfl,by decide +kernel,rfl,by decide +kernel,by decide +kernel⟩
theorem R7 {a b:Nat}:([a]<[b])↔a<b:=by
 rw [List.cons_lt_cons_iff]
 simp
theorem W5 {c:Nat} (h:32≤c):(!decide ((⟨#[c]⟩:Str).cps.toList<(" ":Str).cps.toList))=true:=by
 rw [show (" ":Str).cps.toList=[32] by decide,Bool.not_eq_true',decide_eq_false_iff_not]
 show ¬ ([c]<[32])
 rw [R7]
 omega
theorem W6 {c:Nat} (h:c≤126):(!decide (("~":Str).cps.toList<(⟨#[c]⟩:Str).cps.toList))=true:=by
 rw [show ("~":Str).cps.toList=[126] by decide,Bool.not_eq_true',decide_eq_false_iff_not]
 show ¬ ([126]<[c])
 rw [R7]
 omega
theorem gM {f:Addr} (F:FunB K "is_name" "is_name" L5 f ["value"]) (B:Blt mg):FnP P w K mg base 1 f ["value"] aL:=by
 refine F.ok bA (fun vs H Q E h=>?_) (fun cdv A outer s H vs Q E hr h=>?_)
 ·obtain ⟨x,rfl,_⟩:=h
  rfl
 ·obtain ⟨x,rfl,⟨g1,g2,g3⟩,k⟩:=h
  refine ⟨_,Ad (Az (Bv (Bp (Fh B.isi B.str (pv 0) PyProof.Rows.boot_str))) (Af (As C3)) Av)
   (Af (As (Rv (E2 Jy Jy Ab (Bi J9 rfl B.len PySem.boot_len (Aa (pv 0) Ac)) Ab)
     (Vr (Bi (O3 rfl) rfl B.all_ PyProof.Rows.boot_all (Aa
       (Jw (N':=["sign"]) (cap:=[none]) rfl rfl (bW (pv 0)) (fun _ _ _ _ _=>By (i:=0) (by decide +kernel:(["sign"]:List Str).Nodup) rfl (Or.inl rfl)) (fun _ _ _ _ _=>Fe)
         (fun _ _ _ _ _=>E2 Hy Hy A4 (pv 0) A4)) Ac)))))),?_⟩
  refine ⟨_,rfl,_,"str",_,_,rfl,.str x,dH K,_,rfl,?_⟩
  refine iteF ?_
  refine ⟨_,rfl,_,rfl,Nat.le_trans g2 (by decide),_,_,rfl,rfl,_,rfl,?_⟩
  rw [decide_eq_true (show (1:Int)≤(x.length:Int) by omega),if_pos rfl]
  refine ⟨_,_,rfl,rfl,_,rfl,?_⟩
  rw [decide_eq_true (show (x.length:Int)≤40 by omega),if_pos rfl]
  refine ⟨_,rfl,_,rfl,?_⟩
  refine J4 x.cps.size (fun i ys σ' H'=>ys=List.replicate i (V.bl true)∧H'=H∧∃ v,σ'=[v]) ⟨rfl,rfl,none,rfl⟩ (Nat.le_trans g2 (by decide)) (fun i ys σ' H' hi _=>hi) (fun _ _ _ _=>Nat.le_refl _) ?_ ?_
  ·rintro i ys σ' H' v H2 hi hl ⟨rfl,rfl,w',rfl⟩ ⟨rfl,c,hc,rfl⟩
   have hm:c∈x.cps.toList:=by
    have:x.cps[i]?=some c:=hc
    exact Array.mem_toList_iff.mpr (Array.mem_of_getElem? this)
   obtain ⟨c1,c2⟩:=g3 c hm
   refine ⟨_,rfl,_,_,rfl,rfl,_,rfl,?_⟩
   rw [W5 c1,if_pos rfl]
   refine ⟨_,_,rfl,rfl,?_⟩
   rw [W6 c2]
   refine J5 hi hl (Nat.le_trans g2 (by decide)) ⟨?_,rfl,_,rfl⟩
   rw [List.replicate_succ']
  ·rintro ys σ' H' ⟨rfl,rfl,w',rfl⟩ p hp
   refine ⟨p,List.replicate x.cps.size true,rfl,SqL.of ?_,?_⟩
   ·rw [Ag,List.map_replicate]
   ·rw [show (List.replicate x.cps.size true).all id=true by simp]
    exact k _ (Same.upd hp)
def Ez:Sp:=fun vs H Q _=>∃ x:Str,vs=[.str x]∧A5 x∧∀ H',Same H H'->Q .non H'
theorem T0:Al ["name"] ["name"] (defScope L7):=⟨rfl,rfl,rfl,by decide +kernel,rfl,by decide +kernel,by decide +kernel⟩
theorem Yy {f g:Addr} (F:FunB K "check_name" "check_name" L7 f ["name"]) (G:FnP P w K mg base 1 g ["value"] aL) (hg:mg "is_name"=some (.ref g)):FnP P w K mg base 2 f ["name"] Ez:=by
 refine F.ok T0 (fun vs H Q E h=>?_) (fun cdv A outer s H vs Q E hr h=>?_)
 ·obtain ⟨x,rfl,_⟩:=h
  rfl
 ·obtain ⟨x,rfl,g1,k⟩:=h
  refine ⟨_,Af (Az (Bv (Bp (Am G hr hg (Aa (pv 0) Ac)))) A2 Av),?_⟩
  refine ⟨_,rfl,x,rfl,g1,fun H' S=>⟨_,rfl,?_⟩⟩
  exact iteF (k H' S)
theorem p30:(10:Int) ^ Int.toNat 30=1000000000000000000000000000000:=by decide
theorem p20:(10:Int) ^ Int.toNat 20=100000000000000000000:=by decide
theorem Ca (n:Int) (h:0≤n) (h2:n≤1000):CPow 10 n:=⟨h,by omega,by decide⟩
def Nb:Sp:=fun vs H Q _=>∃ x:Int,vs=[.int x]∧1≤x∧x≤10 ^ 30∧Q .non H
theorem Nj:Al ["weight"] ["weight"] (defScope Hs):=⟨rfl,rfl,rfl,by decide +kernel,rfl,by decide +kernel,by decide +kernel⟩
theorem Uf {f g:Addr} (F:FunB K "check_weight" "check_weight" Hs f ["weight"]) (G:FnP P w K mg base 1 g ["value","least","most"] E7) (hg:mg "is_whole_within"=some (.ref g)):FnP P w K mg base 2 f ["weight"] Nb:=by
 refine F.ok Nj (fun vs H Q E h=>?_) (fun cdv A outer s H vs Q E hr h=>?_)
 ·obtain ⟨x,rfl,_⟩:=h
  rfl
 ·obtain ⟨x,rfl,g1,g2,k⟩:=h
  refine ⟨_,Af (Az (Bv (Bp (Am G hr hg (Aa (pv 0) (Aa Ab (Aa (Ai Cc Ab Ab) Ac)))))) A2 Av),?_⟩
  refine ⟨_,rfl,_,_,rfl,rfl,Ca _ (by decide) (by decide),x,_,_,rfl,_,rfl,?_⟩
  rw [p30,decide_eq_true (show (1:Int)≤x from g1),decide_eq_true (show x≤1000000000000000000000000000000 by omega)]
  exact iteF k
def Pn:Sp:=fun vs H Q _=>∃ x:Int,vs=[.int x]∧0≤x∧x≤10 ^ 30∧Q .non H
theorem Ps:Al ["steps"] ["steps"] (defScope Jt):=⟨rfl,rfl,rfl,by decide +kernel,rfl,by decide +kernel,by decide +kernel⟩
theorem Vy {f g:Addr} (F:FunB K "check_steps" "check_steps" Jt f ["steps"]) (G:FnP P w K mg base 1 g ["value","least","most"] E7) (hg:mg "is_whole_within"=some (.ref g)):FnP P w K mg base 2 f ["steps"] Pn:=by
 refine F.ok Ps (fun vs H Q E h=>?_) (fun cdv A outer s H vs Q E hr h=>?_)
 ·obtain ⟨x,rfl,_⟩:=h
  rfl
 ·obtain ⟨x,rfl,g1,g2,k⟩:=h
  refine ⟨_,Af (Az (Bv (Bp (Am G hr hg (Aa (pv 0) (Aa Ab (Aa (Ai Cc Ab Ab) Ac)))))) A2 Av),?_⟩
  refine ⟨_,rfl,_,_,rfl,rfl,Ca _ (by decide) (by decide),x,_,_,rfl,_,rfl,?_⟩
  rw [p30,decide_eq_true (show (0:Int)≤x from g1),decide_eq_true (show x≤1000000000000000000000000000000 by omega)]
  exact iteF k
def Tt:Sp:=fun vs H Q _=>∃ x y:Int,vs=[.int x,.int y]∧1≤x∧x≤10 ^ 20∧2≤y∧y≤10 ^ 30∧Q .non H
theorem Tz:Al ["span","part"] ["span","part"] (defScope L6):=⟨rfl,rfl,rfl,by decide +kernel,rfl,by decide +kernel,by decide +kernel⟩
theorem Yx {f g:Addr} (F:FunB K "check_rule" "check_rule" L6 f ["span","part"]) (G:FnP P w K mg base 1 g ["value","least","most"] E7) (hg:mg "is_whole_within"=some (.ref g)):FnP P w K mg base 2 f ["span","part"] Tt:=by
 refine F.ok Tz (fun vs H Q E h=>?_) (fun cdv A outer s H vs Q E hr h=>?_)
 ·obtain ⟨x,y,rfl,_⟩:=h
  rfl
 ·obtain ⟨x,y,rfl,g1,g2,g3,g4,k⟩:=h
  refine ⟨_,Ad (Az (Bv (Bp (Am G hr hg (Aa (pv 0) (Aa Ab (Aa (Ai Cc Ab Ab) Ac)))))) A2 Av)
   (Af (Az (Bv (Bp (Am G hr hg (Aa (pv 1) (Aa Ab (Aa (Ai Cc Ab Ab) Ac)))))) A2 Av)),?_⟩
  refine ⟨_,rfl,_,_,rfl,rfl,Ca _ (by decide) (by decide),x,_,_,rfl,_,rfl,?_⟩
  rw [p20,decide_eq_true (show (1:Int)≤x from g1),decide_eq_true (show x≤100000000000000000000 by omega)]
  refine iteF ?_
  refine ⟨_,rfl,_,_,rfl,rfl,Ca _ (by decide) (by decide),y,_,_,rfl,_,rfl,?_⟩
  rw [p30,decide_eq_true (show (2:Int)≤y from g3),decide_eq_true (show y≤1000000000000000000000000000000 by omega)]
  exact iteF k
def Pq:Sp:=fun vs H Q _=>∃ a b c:Int,vs=[.int a,.int b,.int c]∧1≤a∧a≤10 ^ 20∧Q (.int (c / a - b / a)) H
theorem Yi:Al ["span","since","upto"] ["span","since","upto"] (defScope Ny):=⟨rfl,rfl,rfl,by decide +kernel,rfl,by decide +kernel,by decide +kernel⟩
theorem Wj {a:Int} (h:1≤a) (h2:a≤10 ^ 30):iR b a:=⟨by omega,by omega⟩
theorem V4 {f:Addr} (F:FunB K "ageings" "ageings" Ny f ["span","since","upto"]):FnP P w K mg base 1 f ["span","since","upto"] Pq:=by
 refine F.ok Yi (fun vs H Q E h=>?_) (fun cdv A outer s H vs Q E hr h=>?_)
 ·obtain ⟨a,b,c,rfl,_⟩:=h
  rfl
 ·obtain ⟨a,b,c,rfl,g1,g2,k⟩:=h
  refine ⟨_,Af (As (Ai Kp (Ai Oa (pv 2) (pv 0)) (Ai Oa (pv 1) (pv 0)))),?_⟩
  exact ⟨_,rfl,_,rfl,_,_,rfl,rfl,Wj g1 (by omega),_,rfl,_,rfl,_,_,rfl,rfl,Wj g1 (by omega),_,_,rfl,rfl,k⟩
def Ce (c p t:Int):Int:=((c.toNat / p.toNat ^ t.toNat:Nat):Int)
theorem Ws {c p:Int} (h:0≤c):Ce c p 0=c:=by
 unfold Ce
 rw [show (0:Int).toNat=0 from rfl,Nat.pow_zero,Nat.div_one]
 omega
theorem eX {c p t:Int} (h:0≤c):Ce c p t≤c:=by
 unfold Ce
 have:=Nat.div_le_self c.toNat (p.toNat ^ t.toNat)
 omega
theorem Wt {c p:Int} (n:Nat) (hp:0≤p):Ce c p n / p=Ce c p (n+1):=by
 unfold Ce
 rw [show ((n:Int)+1).toNat=n+1 by omega,show (n:Int).toNat=n by omega,Nat.pow_succ,← Nat.div_div_eq_div_mul]
 obtain ⟨q,rfl⟩:=Int.eq_ofNat_of_zero_le hp
 rw [Int.toNat_natCast]
 norm_cast
theorem Qs {c p t:Int} {n:Nat} (hp:2≤p) (hb:c.natAbs<2 ^ n) (h0:0≤c) (ht:(n:Int)≤t):Ce c p t=0:=by
 unfold Ce
 have h1:(2:Nat) ^ n≤p.toNat ^ n:=Nat.pow_le_pow_left (by omega) n
 have h2:p.toNat ^ n≤p.toNat ^ t.toNat:=Nat.pow_le_pow_right (by omega) (by omega)
 have h3:c.toNat<p.toNat ^ t.toNat:=by omega
 rw [Nat.div_eq_of_lt h3]
 rfl
theorem hZ (c:Int):c.natAbs<2 ^ Builtin.Int.intBits c:=PySem.intBits_le_iff.mp (Nat.le_refl _)
theorem iA {c:Int} (h:0≤c) (h2:c≤10 ^ 60):Builtin.Int.intBits c≤400:=by
 refine PySem.intBits_le_iff.mpr ?_
 have e:c.natAbs≤10 ^ 60:=by omega
 exact Nat.lt_of_le_of_lt e (by decide +kernel)
def aQ:Sp:=fun vs H Q _=>∃ c p t:Int,vs=[.int c,.int p,.int t]∧0≤c∧c≤10 ^ 60∧2≤p∧p≤10 ^ 30∧0≤t∧Q (.int (Ce c p t)) H
theorem Ra:Al ["count","part","times","needed","step"] ["count","part","times"] (defScope bN):=⟨rfl,rfl,rfl,by decide +kernel,rfl,by decide +kernel,by decide +kernel⟩
theorem gT {f:Addr} (F:FunB K "aged" "aged" bN f ["count","part","times"]) (B:Blt mg):FnP P w K mg base 1 f ["count","part","times"] aQ:=by
 refine F.ok Ra (fun vs H Q E h=>?_) (fun cdv A outer s H vs Q E hr h=>?_)
 ·obtain ⟨c,p,t,rfl,_⟩:=h
  rfl
 ·obtain ⟨c,p,t,rfl,g1,g2,g3,g4,g5,k⟩:=h
  refine ⟨_,Ad (A3 (i:=3) Ra.nd rfl (Or.inl rfl) (Bi (Zy rfl) rfl B.min_ PyProof.Rows.boot_min (Aa (pv 2) (Aa (cB PySem.F.plainAttrs_int PySem.F.slot_int_bit_length PySem.F.type_int_bit_length gW (pv 0)) Ac))))
   (Ad (Ko PassesOwn.never rfl (E1 rfl B.range (Aa (pv 3) Ac)) (By (i:=4) Ra.nd rfl (Or.inl rfl)) (Af (A3 (i:=0) Ra.nd rfl (Or.inl rfl) (Ai Oa (pv 0) (pv 1)))))
   (Af (As (pv 0)))),?_⟩
  have hb:=iA g1 g2
  have hb2:=hZ c
  refine ⟨_,rfl,_,rfl,rfl,_,rfl,rfl,_,_,rfl,?_⟩
  refine ⟨_,rfl,_,rfl,by split <;> omega,by split <;> omega,?_⟩
  generalize hn:(if (Builtin.Int.intBits c:Int)<t then (Builtin.Int.intBits c:Int) else t)=n
  refine Zh (Pv:=fun i σ H'=>∃ z,σ=[some (.int (Ce c p i)),some (.int p),some (.int t),some (.int n),z]∧H'=H) ⟨none,?_,rfl⟩ ?_ ?_
  ·rw [show ((0:Nat):Int)=0 from rfl,Ws g1]; rfl
  ·rintro i σ H' hi ⟨z,rfl,rfl⟩
   refine ⟨_,rfl,_,rfl,_,_,rfl,rfl,Wj (by omega) g4,some (.int (0+i)),?_,rfl⟩
   show [some (V.int (Ce c p i / p)),some (V.int p),some (V.int t),some (V.int n),some (V.int (0+i))]=_
   rw [Wt i (by omega)]
   rfl
  ·rintro σ H' ⟨z,rfl,rfl⟩
   refine ⟨_,rfl,?_⟩
   have e:Ce c p (n.toNat:Nat)=Ce c p t:=by
    by_cases hlt:(Builtin.Int.intBits c:Int)<t
    ·rw [if_pos hlt] at hn
     rw [← hn,Qs (n:=Builtin.Int.intBits c) g3 hb2 g1 (by omega),Qs (n:=Builtin.Int.intBits c) g3 hb2 g1 (by omega)]
    ·rw [if_neg hlt] at hn
     rw [← hn,show ((t.toNat:Nat):Int)=t by omega]
   show Q (.int (Ce c p (n.toNat:Nat))) _
   rw [e]
   exact k
end
end Lk

namespace Lk
open PySem L2
abbrev Dv:Stmt:=top 18
abbrev T5:Stmt:=inClass Dv 0
abbrev sAsk:Stmt:=inClass Dv 1
abbrev Xd:Stmt:=inClass Dv 2
abbrev Xe:Stmt:=inClass Dv 3
abbrev Nm:Stmt:=inClass Dv 4
abbrev Iv:Stmt:=inClass Dv 5
abbrev Js:Stmt:=inClass Dv 6
abbrev L4:Stmt:=inClass Dv 7
abbrev Vk:Stmt:=inClass Dv 8
abbrev Nv:Stmt:=inClass Dv 9
abbrev Km:Stmt:=inClass Dv 10
abbrev Hu:Stmt:=inClass Dv 11
abbrev bK:Stmt:=inClass Dv 12
abbrev Fc:Stmt:=inClass Dv 13
abbrev Kn:Stmt:=inClass Dv 14
abbrev Ix:Stmt:=inClass Dv 15
abbrev bL:Stmt:=inClass Dv 16
structure BS where
 span:Int
 part:Int
 time:Int
 deeds:Int
 ents:List (Str×Int×Int)
def tabK (mk:Str×Int×Int->V) (es:List (Str×Int×Int)):List (Key×V):=es.map fun e=>(Sum.inr e.1,mk e)
abbrev mC:Str×Int×Int->V:=fun e=>.int e.2.1
abbrev mL:Str×Int×Int->V:=fun e=>.int e.2.2
abbrev An (es:List (Str×Int×Int)):List Str:=es.map (·.1)
def A1 (es:List (Str×Int×Int)) (n:Str):Option (Str×Int×Int):=es.find? fun e=>decide (e.1=n)
theorem Bz (mk:Str×Int×Int->V) (a b:List (Str×Int×Int)):tabK mk (a++b)=tabK mk a++tabK mk b:=by unfold tabK; rw [List.map_append]
theorem F0 (mk:Str×Int×Int->V) (a:List (Str×Int×Int)):(tabK mk a).length=a.length:=by unfold tabK; rw [List.length_map]
theorem Br (mk:Str×Int×Int->V) (n:Str):∀ es,valV (tabK mk es) (Sum.inr n:Key)=(A1 es n).map mk
 | []=>rfl
 | e::r=>by
   by_cases h:e.1=n
   ·have h1:A1 (e::r) n=some e:=by unfold A1; rw [List.find?_cons,decide_eq_true h]
    rw [h1]
    exact Ev (p:=(Sum.inr e.1,mk e)) (congrArg Sum.inr h)
   ·have h1:A1 (e::r) n=A1 r n:=by unfold A1; rw [List.find?_cons,decide_eq_false h]
    rw [h1,← Br mk n r]
    exact Ew (p:=(Sum.inr e.1,mk e)) (fun z=>h (Sum.inr.inj z))
theorem Oy {es:List (Str×Int×Int)} {n:Str} (h:n∉An es):A1 es n=none:=by
 unfold A1
 rw [List.find?_eq_none]
 intro e he
 simp only [decide_eq_true_eq]
 intro z
 exact h (List.mem_map.mpr ⟨e,he,z⟩)
theorem Dt {a b:List (Str×Int×Int)} {e:Str×Int×Int} (h:e.1∉An a):A1 (a++e::b) e.1=some e:=by
 unfold A1
 rw [List.find?_append]
 have:(a.find? fun x=>decide (x.1=e.1))=none:=Oy h
 rw [this,List.find?_cons,decide_eq_true rfl]
 rfl
theorem Be {es:List (Str×Int×Int)} {n:Str} {e:Str×Int×Int} (h:A1 es n=some e):e.1=n∧∃ a b,es=a++e::b∧n∉An a:=by
 induction es with
 | nil=>cases h
 | cons x r ih=>
   by_cases hx:x.1=n
   ·have h1:A1 (x::r) n=some x:=by unfold A1; rw [List.find?_cons,decide_eq_true hx]
    rw [h1] at h
    cases h
    exact ⟨hx,[],r,rfl,by simp⟩
   ·have h1:A1 (x::r) n=A1 r n:=by unfold A1; rw [List.find?_cons,decide_eq_false hx]
    rw [h1] at h
    obtain ⟨h2,a,b,h3,h4⟩:=ih h
    refine ⟨h2,x::a,b,by rw [h3]; rfl,?_⟩
    intro z
    rcases List.mem_cons.mp z with z | z
    ·exact hx z.symm
    ·exact h4 z
theorem De {es:List (Str×Int×Int)} {n:Str} {e:Str×Int×Int} (h:A1 es n=some e):e∈es:=by
 obtain ⟨_,a,b,rfl,_⟩:=Be h
 exact List.mem_append_right _ List.mem_cons_self
theorem Fq {es:List (Str×Int×Int)} {n:Str} (h:A1 es n=none):n∉An es:=by
 intro hm
 obtain ⟨e,he,rfl⟩:=List.mem_map.mp hm
 unfold A1 at h
 rw [List.find?_eq_none] at h
 exact h e he (decide_eq_true rfl)
theorem Kt {mk:Str×Int×Int->V} {n:Str} {v:V}:∀ {a:List (Str×Int×Int)},n∉An a->((tabK mk a).map fun kv=>if kv.1=(Sum.inr n:Key) then (kv.1,v) else kv)=tabK mk a
 | [],_=>rfl
 | e::r,h=>by
   have h1:¬ e.1=n:=fun z=>h (by rw [← z]; exact List.mem_cons_self)
   show (if (Sum.inr e.1:Key)=Sum.inr n then _ else (Sum.inr e.1,mk e))::((tabK mk r).map _)=(Sum.inr e.1,mk e)::tabK mk r
   rw [if_neg fun z=>h1 (Sum.inr.inj z),Kt fun z=>h (List.mem_cons_of_mem _ z)]
theorem Fs {mk:Str×Int×Int->V} {n:Str}:∀ {a:List (Str×Int×Int)},n∉An a->Dy (tabK mk a) (Sum.inr n:Key)=tabK mk a
 | [],_=>rfl
 | e::r,h=>by
   have h1:¬ e.1=n:=fun z=>h (by rw [← z]; exact List.mem_cons_self)
   show Dy ((Sum.inr e.1,mk e)::tabK mk r) _=(Sum.inr e.1,mk e)::tabK mk r
   rw [Zk fun z=>h1 (Sum.inr.inj z),Fs fun z=>h (List.mem_cons_of_mem _ z)]
theorem N2 {mk:Str×Int×Int->V} {a b:List (Str×Int×Int)} {e:Str×Int×Int} {v:V} (ha:e.1∉An a) (hb:e.1∉An b) :
  putK (tabK mk (a++e::b)) (Sum.inr e.1:Key) v=tabK mk a++(Sum.inr e.1,v)::tabK mk b:=by
 have hany:((tabK mk (a++e::b)).any fun kv=>decide (kv.1=(Sum.inr e.1:Key)))=true:=by
  rw [Jk,Br,Dt ha]; rfl
 unfold putK
 rw [if_pos hany,Bz,List.map_append,Kt ha]
 show _++(if (Sum.inr e.1:Key)=Sum.inr e.1 then _ else _)::((tabK mk b).map _)=_
 rw [if_pos rfl,Kt hb]
theorem Qj {mk:Str×Int×Int->V} {a b:List (Str×Int×Int)} {e:Str×Int×Int} (ha:e.1∉An a) (hb:e.1∉An b) :
  Dy (tabK mk (a++e::b)) (Sum.inr e.1:Key)=tabK mk (a++b):=by
 have h1:=Fs (mk:=mk) ha
 have h2:=Fs (mk:=mk) hb
 rw [Bz,Bz]
 unfold Dy at h1 h2 ⊢
 rw [List.filter_append,h1]
 show _++List.filter _ ((Sum.inr e.1,mk e)::tabK mk b)=_
 rw [List.filter_cons,if_neg (by simp),h2]
def Bm (S:BS) (dc dl:Addr) (ex:List (Str×V)):List (Str×V):=
 ("span",.int S.span)::("part",.int S.part)::("time",.int S.time)::("deeds",.int S.deeds)::("counts",.ref dc)::("lasts",.ref dl)::ex
section
variable {S:BS} {dc dl:Addr} {ex:List (Str×V)}
theorem Su:(Bm S dc dl ex).lookup ("span":Str)=some (.int S.span):=rfl
theorem Sv:(Bm S dc dl ex).lookup ("part":Str)=some (.int S.part):=rfl
theorem Ss:(Bm S dc dl ex).lookup ("time":Str)=some (.int S.time):=rfl
theorem Ih:(Bm S dc dl ex).lookup ("deeds":Str)=some (.int S.deeds):=rfl
theorem Cn:(Bm S dc dl ex).lookup ("counts":Str)=some (.ref dc):=rfl
theorem Fu:(Bm S dc dl ex).lookup ("lasts":Str)=some (.ref dl):=rfl
theorem f_no {m:Str} (h:m∉(["span","part","time","deeds","counts","lasts"]:List Str)) (h2:ex.lookup m=none):(Bm S dc dl ex).lookup m=none:=by
 unfold Bm
 simp only [List.mem_cons,not_or] at h
 obtain ⟨h1,h3,h4,h5,h6,h7,_⟩:=h
 simp only [List.lookup_cons,beq_eq_false_iff_ne.mpr h1,beq_eq_false_iff_ne.mpr h3,beq_eq_false_iff_ne.mpr h4,beq_eq_false_iff_ne.mpr h5,beq_eq_false_iff_ne.mpr h6,beq_eq_false_iff_ne.mpr h7]
 exact h2
theorem Zi (y:Int):putF "time" (.int y) (Bm S dc dl ex)=Bm {S with time:=y} dc dl ex:=rfl
theorem Je (y:Int):putF "deeds" (.int y) (Bm S dc dl ex)=Bm {S with deeds:=y} dc dl ex:=rfl
theorem Xs (h:ex.length≤100):(Bm S dc dl ex).length<1000:=by
 unfold Bm
 simp only [List.length_cons]
 omega
end
end Lk

namespace Lk
open PySem L2
structure Kd (τ:Type) where
 C:Addr
 p:Addr
 dc:Addr
 dl:Addr
 ex:τ->List (Str×V)
 on:τ->Hp->Prop
 own:Addr->Prop
abbrev Fv:List Str:=["places","standing","gone","line","met_at"]
structure KdOk {τ:Type} (κ:Kd τ):Prop where
 op:κ.own κ.p
 oc:κ.own κ.dc
 ol:κ.own κ.dl
 ne:κ.dc≠κ.dl
 exl:∀ t,(κ.ex t).length≤100
 exn:∀ t m,m∉Fv->(κ.ex t).lookup m=none
 fr:∀ t H H',κ.on t H->(∀ b o,H b=some o->κ.own b->b≠κ.p->b≠κ.dc->b≠κ.dl->H' b=some o)->(∀ b xs,H b=some (.tup xs)->H' b=some (.tup xs))->κ.on t H'
structure Ah {τ:Type} (κ:Kd τ) (S:BS) (t:τ) (H:Hp):Prop where
 ob:∃ dx,H κ.p=some (.ins κ.C dx (Bm S κ.dc κ.dl (κ.ex t)))
 cn:H κ.dc=some (.dK (tabK mC S.ents))
 ls:H κ.dl=some (.dK (tabK mL S.ents))
 ex:κ.on t H
 al:∀ b,κ.own b->∃ o,H b=some o∧∀ xs,o≠.tup xs
def Fr {τ:Type} (κ:Kd τ) (H H':Hp):Prop:=∀ b o,H b=some o->¬ κ.own b->H' b=some o
section
variable {τ:Type} {κ:Kd τ} {S:BS} {t:τ} {H H' H'':Hp}
theorem Fr.refl:Fr κ H H:=fun _ _ e _=>e
theorem Fr.trans (a:Fr κ H H') (b:Fr κ H' H''):Fr κ H H'':=fun c o e n=>b c o (a c o e n) n
theorem Fr.of_same (a:Same H H'):Fr κ H H':=fun c o e _=>a c o e
theorem KdOk.onU (O:KdOk κ) {c:Addr} {o u:HO} (h:κ.on t H) (hc:c=κ.p∨c=κ.dc∨c=κ.dl∨¬ κ.own c) (e:H c=some u) (hu:∀ xs,u≠.tup xs):κ.on t (upd H c o):=
 O.fr t H _ h (fun b v q ob h1 h2 h3=>by
  rw [Ae]
  ·exact q
  ·intro z
   subst z
   rcases hc with z | z | z | z
   ·exact h1 z
   ·exact h2 z
   ·exact h3 z
   ·exact z ob) fun b xs q=>by
  rw [Ae (fun z=>by rw [z,e] at q; exact hu xs (Option.some.inj q))]; exact q
theorem Ah.same (B:Ah κ S t H) (O:KdOk κ) (h:Same H H'):Ah κ S t H':=by
 obtain ⟨⟨dx,h1⟩,h2,h3,h4,h5⟩:=B
 exact ⟨⟨dx,h _ _ h1⟩,h _ _ h2,h _ _ h3,O.fr t H H' h4 (fun b o e _ _ _ _=>h b o e) (fun b xs e=>h b _ e),fun b hb=>let ⟨o,e,n⟩:=h5 b hb; ⟨o,h _ _ e,n⟩⟩
theorem Ei {own:Addr->Prop} {H:Hp} {c:Addr} {o:HO} (h:∀ b,own b->∃ o,H b=some o∧∀ xs,o≠.tup xs) (ho:∀ xs,o≠.tup xs):∀ b,own b->∃ u,upd H c o b=some u∧∀ xs,u≠.tup xs:=fun b hb=>by
 by_cases e:b=c
 ·exact ⟨o,by rw [e,Ag],ho⟩
 ·obtain ⟨u,h1,h2⟩:=h b hb
  exact ⟨u,by rw [Ae e]; exact h1,h2⟩
theorem Ah.noTup (B:Ah κ S t H) {l:Addr} {xs:List V} (h:H l=some (.tup xs)):¬ κ.own l:=fun z=>by
 obtain ⟨o,e,n⟩:=B.al l z
 rw [h] at e
 exact n xs (Option.some.inj e).symm
theorem Ah.new (B:Ah κ S t H) {l:Addr} (h:H l=none):¬ κ.own l:=fun z=>by
 obtain ⟨o,e,_⟩:=B.al l z
 rw [h] at e; cases e
theorem Ah.pc (B:Ah κ S t H):κ.p≠κ.dc:=by
 obtain ⟨⟨dx,h1⟩,h2,_⟩:=B
 exact Il h1 h2 (by intro z; cases z)
theorem Ah.pl (B:Ah κ S t H):κ.p≠κ.dl:=by
 obtain ⟨⟨dx,h1⟩,_,h3,_⟩:=B
 exact Il h1 h3 (by intro z; cases z)
theorem Ah.fno (B:Ah κ S t H) (O:KdOk κ) {m:Str} (h:m∉(["span","part","time","deeds","counts","lasts"]:List Str)) (h2:m∉Fv):(Bm S κ.dc κ.dl (κ.ex t)).lookup m=none:=f_no h (O.exn t m h2)
theorem Ah.setOb (B:Ah κ S t H) (O:KdOk κ) {dx:Addr} {S':BS} (e:S'.ents=S.ents):Ah κ S' t (upd H κ.p (.ins κ.C dx (Bm S' κ.dc κ.dl (κ.ex t)))):=by
 refine ⟨⟨dx,Ag⟩,?_,?_,O.onU B.ex (.inl rfl) B.ob.choose_spec (by intro xs z; cases z),Ei B.al (by intro xs z; cases z)⟩
 ·rw [Ae B.pc.symm,e]; exact B.cn
 ·rw [Ae B.pl.symm,e]; exact B.ls
theorem Fr.upd (O:KdOk κ) {b:Addr} (hb:κ.own b) {o:HO}:Fr κ H (upd H b o):=fun c u e n=>by rw [Ae (fun z=>n (by rw [z]; exact hb))]; exact e
end
structure BTxt (K:PySem.W.Frag) (C:Addr):Prop where
 cl:Cls K C
 n1:Ct K C "span"
 n2:Ct K C "part"
 n3:Ct K C "time"
 n4:Ct K C "deeds"
 n5:Ct K C "counts"
 n6:Ct K C "lasts"
section
variable {P:Program} {w:World} {K:PySem.W.Frag} {mg:Str->Option Value} {base:Heap} {τ:Type} {C:Addr}
structure Objs (τ:Type) (C:Addr) where
 is:Kd τ->Prop
 ok:∀ κ,is κ->KdOk κ
 cls:∀ κ,is κ->κ.C=C
variable (𝒪:Objs τ C)
def aF:Sp:=fun vs H Q _=>∃ κ S t,𝒪.is κ∧vs=[.ref κ.p]∧Ah κ S t H∧Q (.int S.time) H
theorem jD:Al ["self"] ["self"] (defScope Nm):=⟨rfl,rfl,rfl,by decide +kernel,rfl,by decide +kernel,by decide +kernel⟩
theorem Ry {f:Addr} (F:FunB K "time_now" "Book.time_now" Nm f ["self"]) (T:BTxt K C):FnP P w K mg base 1 f ["self"] (aF 𝒪):=by
 refine F.ok jD (fun vs H Q E h=>?_) (fun cdv A outer s H vs Q E hr h=>?_)
 ·obtain ⟨κ,S,t,_,rfl,_⟩:=h
  rfl
 ·obtain ⟨κ,S,t,hκ,rfl,B,k⟩:=h
  obtain ⟨dx,h1⟩:=B.ob
  have hC:=𝒪.cls κ hκ
  refine ⟨_,Af (As (Ax (pv 0) rfl)),?_⟩
  exact ⟨_,rfl,κ.p,κ.C,dx,_,_,rfl,h1,hC ▸ T.cl,hC ▸ T.n3,Ss,k⟩
def W3:Sp:=fun vs H Q _=>∃ κ S t,𝒪.is κ∧vs=[.ref κ.p]∧Ah κ S t H∧Q (.int S.deeds) H
theorem fQ:Al ["self"] ["self"] (defScope Iv):=⟨rfl,rfl,rfl,by decide +kernel,rfl,by decide +kernel,by decide +kernel⟩
theorem Od {f:Addr} (F:FunB K "deeds_done" "Book.deeds_done" Iv f ["self"]) (T:BTxt K C):FnP P w K mg base 1 f ["self"] (W3 𝒪):=by
 refine F.ok fQ (fun vs H Q E h=>?_) (fun cdv A outer s H vs Q E hr h=>?_)
 ·obtain ⟨κ,S,t,_,rfl,_⟩:=h
  rfl
 ·obtain ⟨κ,S,t,hκ,rfl,B,k⟩:=h
  obtain ⟨dx,h1⟩:=B.ob
  have hC:=𝒪.cls κ hκ
  refine ⟨_,Af (As (Ax (pv 0) rfl)),?_⟩
  exact ⟨_,rfl,κ.p,κ.C,dx,_,_,rfl,h1,hC ▸ T.cl,hC ▸ T.n4,Ih,k⟩
def cntE (S:BS) (n:Str):Int:=((A1 S.ents n).map (·.2.1)).getD 0
def lstE (S:BS) (n:Str):Option Int:=(A1 S.ents n).map (·.2.2)
def optV:Option Int->V
 | some i=>.int i
 | none=>.non
def Pm:Sp:=fun vs H Q _=>∃ κ S t n,𝒪.is κ∧vs=[.ref κ.p,.str n]∧A5 n∧Ah κ S t H∧∀ H',Same H H'->Q (.int (cntE S n)) H'
theorem Pr:Al ["self","name"] ["self","name"] (defScope Js):=⟨rfl,rfl,rfl,by decide +kernel,rfl,by decide +kernel,by decide +kernel⟩
theorem Ja {f g:Addr} (F:FunB K "count_of" "Book.count_of" Js f ["self","name"]) (T:BTxt K C) (G:FnP P w K mg base 2 g ["name"] Ez) (hg:mg "check_name"=some (.ref g)):FnP P w K mg base 4 f ["self","name"] (Pm 𝒪):=by
 refine F.ok Pr (fun vs H Q E h=>?_) (fun cdv A outer s H vs Q E hr h=>?_)
 ·obtain ⟨κ,S,t,n,_,rfl,_⟩:=h
  rfl
 ·obtain ⟨κ,S,t,n,hκ,rfl,gn,B,k⟩:=h
  have hC:=𝒪.cls κ hκ
  refine ⟨_,Ad (Ak (Am G (hr.mono (by decide)) hg (Aa (pv 1) Ac))) (Af (As (N6 (Dj hr) (Ax (pv 0) rfl) (pv 1) Ab ⟨rfl,rfl,rfl,rfl⟩))),?_⟩
  refine ⟨_,rfl,n,rfl,gn,fun H' S'=>?_⟩
  have B':=B.same (𝒪.ok κ hκ) S'
  obtain ⟨dx,h1⟩:=B'.ob
  refine ⟨_,rfl,κ.p,κ.C,dx,_,_,rfl,h1,hC ▸ T.cl,hC ▸ T.n5,Cn,κ.dc,rfl,.inl ⟨_,.inl B'.cn⟩,_,rfl,_,DGet.k (k:=Sum.inr n) B'.cn,?_⟩
  have e:(valV (tabK mC S.ents) (Sum.inr n:Key)).getD (.int 0)=.int (cntE S n):=by
   rw [Br]
   unfold cntE
   cases A1 S.ents n <;> rfl
  show Q ((valV (tabK mC S.ents) (Sum.inr n:Key)).getD (.int 0)) H'
  rw [e]
  exact k H' S'
def Tq:Sp:=fun vs H Q _=>∃ κ S t n,𝒪.is κ∧vs=[.ref κ.p,.str n]∧A5 n∧Ah κ S t H∧∀ H',Same H H'->Q (optV (lstE S n)) H'
theorem Ty:Al ["self","name"] ["self","name"] (defScope L4):=⟨rfl,rfl,rfl,by decide +kernel,rfl,by decide +kernel,by decide +kernel⟩
theorem Kq {f g:Addr} (F:FunB K "last_of" "Book.last_of" L4 f ["self","name"]) (T:BTxt K C) (G:FnP P w K mg base 2 g ["name"] Ez) (hg:mg "check_name"=some (.ref g)):FnP P w K mg base 4 f ["self","name"] (Tq 𝒪):=by
 refine F.ok Ty (fun vs H Q E h=>?_) (fun cdv A outer s H vs Q E hr h=>?_)
 ·obtain ⟨κ,S,t,n,_,rfl,_⟩:=h
  rfl
 ·obtain ⟨κ,S,t,n,hκ,rfl,gn,B,k⟩:=h
  have hC:=𝒪.cls κ hκ
  refine ⟨_,Ad (Ak (Am G (hr.mono (by decide)) hg (Aa (pv 1) Ac))) (Af (As (cA (Dj hr) (Ax (pv 0) rfl) (pv 1) ⟨rfl,rfl,rfl,rfl⟩))),?_⟩
  refine ⟨_,rfl,n,rfl,gn,fun H' S'=>?_⟩
  have B':=B.same (𝒪.ok κ hκ) S'
  obtain ⟨dx,h1⟩:=B'.ob
  refine ⟨_,rfl,κ.p,κ.C,dx,_,_,rfl,h1,hC ▸ T.cl,hC ▸ T.n6,Fu,κ.dl,rfl,.inl ⟨_,.inl B'.ls⟩,_,rfl,_,DGet.k (k:=Sum.inr n) B'.ls,?_⟩
  have e:(valV (tabK mL S.ents) (Sum.inr n:Key)).getD .non=optV (lstE S n):=by
   rw [Br]
   unfold lstE
   cases A1 S.ents n <;> rfl
  show Q ((valV (tabK mL S.ents) (Sum.inr n:Key)).getD .non) H'
  rw [e]
  exact k H' S'
structure Qu {τ:Type} (κ:Kd τ) (S:BS) (t:τ) (H:Hp):Prop where
 ob:∃ dx,H κ.p=some (.ins κ.C dx (Bm S κ.dc κ.dl (κ.ex t)))
 cn:H κ.dc=some (.dK (tabK mC S.ents))
 ls:H κ.dl=some (.dK (tabK mL S.ents))
theorem Ah.r {τ:Type} {κ:Kd τ} {S:BS} {t:τ} {H:Hp} (B:Ah κ S t H):Qu κ S t H:=⟨B.ob,B.cn,B.ls⟩
theorem Qu.same {τ:Type} {κ:Kd τ} {S:BS} {t:τ} {H H':Hp} (B:Qu κ S t H) (h:Same H H'):Qu κ S t H':=let ⟨⟨dx,h1⟩,h2,h3⟩:=B; ⟨⟨dx,h _ _ h1⟩,h _ _ h2,h _ _ h3⟩
def E8:Sp:=fun vs H Q _=>∃ κ S t e,𝒪.is κ∧vs=[.ref κ.p,.str e.1]∧Qu κ S t H∧A1 S.ents e.1=some e∧∀ q,H q=none->Q (.ref q) (upd H q (.tup [.int e.2.1,.int e.2.2]))
theorem Vc:Al ["self","name"] ["self","name"] (defScope Km):=⟨rfl,rfl,rfl,by decide +kernel,rfl,by decide +kernel,by decide +kernel⟩
theorem Gq {f:Addr} (F:FunB K "strength" "Book.strength" Km f ["self","name"]) (T:BTxt K C):FnP P w K mg base 1 f ["self","name"] (E8 𝒪):=by
 refine F.ok Vc (fun vs H Q E h=>?_) (fun cdv A outer s H vs Q E hr h=>?_)
 ·obtain ⟨κ,S,t,e,_,rfl,_⟩:=h
  rfl
 ·obtain ⟨κ,S,t,e,hκ,rfl,B,he,k⟩:=h
  have hC:=𝒪.cls κ hκ
  obtain ⟨dx,h1⟩:=B.ob
  have hu:=Dj hr
  refine ⟨_,Af (As (Gj (Aa (D7 hu (Ax (pv 0) rfl) (pv 1) (fun _ _=>rfl)) (Aa (D7 hu (Ax (pv 0) rfl) (pv 1) (fun _ _=>rfl)) Ac)))),?_⟩
  have g1:DGet H κ.dc (.str e.1) (some (.int e.2.1)):=by
   have:=DGet.k (k:=Sum.inr e.1) B.cn
   rw [Br,he] at this
   exact this
  have g2:DGet H κ.dl (.str e.1) (some (.int e.2.2)):=by
   have:=DGet.k (k:=Sum.inr e.1) B.ls
   rw [Br,he] at this
   exact this
  refine ⟨_,rfl,κ.p,κ.C,dx,_,_,rfl,h1,hC ▸ T.cl,hC ▸ T.n5,Cn,_,rfl,κ.dc,_,rfl,g1,?_⟩
  refine ⟨_,rfl,κ.p,κ.C,dx,_,_,rfl,h1,hC ▸ T.cl,hC ▸ T.n6,Fu,_,rfl,κ.dl,_,rfl,g2,(by show 2≤sizeLine; decide),fun q hq=>k q hq⟩
def Bd (S:BS) (n:Str):List Int:=match A1 S.ents n with
 | some e=>[e.2.1,e.2.2]
 | none=>[]
def Weak (S:BS) (ns ys:List Str):Prop:=ys.Perm ns∧ys.Pairwise fun a b=>HT.A7 (Bd S a) (Bd S b)=true
structure Ch (S:BS) (ns:List Str):Prop where
 there:∀ n∈ns,∃ e,A1 S.ents n=some e
 few:ns.length<64
 nd:ns.Nodup
 lasts:∀ a∈S.ents,∀ b∈S.ents,a.2.2=b.2.2->a.1=b.1
theorem Ch.keys {S:BS} {ns:List Str} (h:Ch S ns):(ns.map (Bd S)).Pairwise (·≠·):=by
 rw [List.pairwise_map]
 refine List.Pairwise.imp_of_mem ?_ h.nd
 intro a b ha hb hne he
 obtain ⟨ea,h1⟩:=h.there a ha
 obtain ⟨eb,h2⟩:=h.there b hb
 unfold Bd at he
 rw [h1,h2] at he
 have hl:ea.2.2=eb.2.2:=by
  have:=(List.cons.inj (List.cons.inj he).2).1
  exact this
 have:=h.lasts ea (De h1) eb (De h2) hl
 rw [(Be h1).1,(Be h2).1] at this
 exact hne this
theorem eZ {S:BS} {ns:List Str} {qs:List (V×List Int)} (h:G9 (ns.map fun n=>(V.str n,Bd S n)) qs):∃ ys,Weak S ns ys∧qs.map (·.1)=ys.map V.str:=by
 have key:∀ (l:List (V×List Int)),(∀ q∈l,∃ n∈ns,q=(V.str n,Bd S n))->∃ ys:List Str,l=ys.map fun n=>(V.str n,Bd S n):=by
  intro l
  induction l with
  | nil=>intro _; exact ⟨[],rfl⟩
  | cons q r ih=>
    intro hq
    obtain ⟨n,_,e⟩:=hq q List.mem_cons_self
    obtain ⟨ys,e2⟩:=ih fun z hz=>hq z (List.mem_cons_of_mem _ hz)
    exact ⟨n::ys,by rw [e,e2]; rfl⟩
 obtain ⟨ys,rfl⟩:=key qs fun q hq=>by
  obtain ⟨n,hn,e⟩:=List.mem_map.mp (h.1.mem_iff.mp hq)
  exact ⟨n,hn,e.symm⟩
 refine ⟨ys,⟨?_,?_⟩,?_⟩
 ·have:=h.1.map (fun q:V×List Int=>match q.1 with | .str n=>n | _=>("":Str))
  rw [List.map_map,List.map_map] at this
  simpa [Function.comp_def] using this
 ·have:=h.2
  rw [List.pairwise_map] at this
  exact this
 ·rw [List.map_map]; rfl
def Ho (K:PySem.W.Frag):Sp:=fun vs H Q _=>∃ κ S t x ns,𝒪.is κ∧vs=[.ref κ.p,x]∧Ah κ S t H∧Coll K H x (ns.map V.str)∧Ch S ns∧∀ l H' ys,H l=none->Same H H'->H' l=some (.lst (ys.map V.str))->Weak S ns ys->Q (.ref l) H'
theorem Yh:Al ["self","names"] ["self","names"] (defScope Nv):=⟨rfl,rfl,rfl,by decide +kernel,rfl,by decide +kernel,by decide +kernel⟩
theorem Zu {K:PySem.W.Frag} {H H':Hp} {x:V} {xs:List V} (h:Same H H') (c:Coll K H x xs):Coll K H' x xs:=by
 obtain ⟨p,rfl,c⟩:=c
 refine ⟨p,rfl,?_⟩
 rcases c with c | ⟨kvs,c,e⟩
 ·exact .inl (h.seq c)
 ·refine .inr ⟨kvs,?_,e⟩
  rcases c with c | ⟨o,c⟩
  ·exact .inl (h _ _ c)
  ·exact .inr ⟨o,h _ _ c⟩
theorem Iz {f g:Addr} (F:FunB K "in_order" "Book.in_order" Nv f ["self","names"]) (T:BTxt K C) (B:Blt mg) (G:FnP P w K mg base 1 g ["self","name"] (E8 𝒪)) (M:O8 K C "strength" g):FnP P w K mg base 6 f ["self","names"] (Ho 𝒪 K):=by
 obtain ⟨fd,G,hb,kp⟩:=G
 refine F.ok Yh (fun vs H Q E h=>?_) (fun cdv A outer s H vs Q E hr h=>?_)
 ·obtain ⟨κ,S,t,x,ns,_,rfl,_⟩:=h
  rfl
 ·obtain ⟨κ,S,t,x,ns,hκ,rfl,B1,hc,hs,k⟩:=h
  have hC:=𝒪.cls κ hκ
  have O:=𝒪.ok κ hκ
  obtain ⟨dx,h1⟩:=B1.ob
  rw [hC] at h1
  refine ⟨_,Af (As (bY rfl G (hr.mono (by decide)) hb rfl B.sorted (pv 1) (Ua (pv 0) T.cl M rfl))),?_⟩
  refine ⟨_,rfl,_,rfl,κ.p,dx,_,rfl,h1,B1.fno O (by decide +kernel) (by decide +kernel),fun q hq=>?_⟩
  have S1:Same H (upd H q (.met g κ.p)):=Same.upd hq
  refine ⟨q,κ.p,ns.map fun n=>(V.str n,Bd S n),2,rfl,Ag,?_,by rw [List.length_map]; exact hs.few,by decide,?_,?_,?_,?_⟩
  ·rw [List.map_map]
   exact Zu S1 hc
  ·intro z hz
   obtain ⟨n,hn,rfl⟩:=List.mem_map.mp hz
   obtain ⟨e,he⟩:=hs.there n hn
   show (Bd S n).length=2
   unfold Bd
   rw [he]
   rfl
  ·rw [List.map_map]
   exact hs.keys
  ·intro z hz H' Q' SS hq'
   obtain ⟨n,hn,rfl⟩:=List.mem_map.mp hz
   obtain ⟨e,he⟩:=hs.there n hn
   have en:e.1=n:=(Be he).1
   subst en
   refine ⟨κ,S,t,e,hκ,rfl,((B1.same O S1).same O SS).r,he,fun q2 hq2=>?_⟩
   have ek:Bd S e.1=[e.2.1,e.2.2]:=by unfold Bd; rw [he]
   have:=hq' q2 hq2
   rw [show ((V.str e.1,Bd S e.1):V×List Int).2=[e.2.1,e.2.2] from ek] at this
   exact this
  ·intro qs D H' sb hD SS hl
   obtain ⟨ys,wk,eq⟩:=eZ sb
   rw [eq] at hl
   refine k D H' ys ?_ (S1.trans SS) hl wk
   cases e:H D with
   | none=>rfl
   | some o=>rw [S1 _ _ e] at hD; cases hD
def fE:Sp:=fun vs H Q _=>∃ κ S t,𝒪.is κ∧vs=[.ref κ.p]∧Ah κ S t H∧Ch S (An S.ents)∧∀ l H' ys,H l=none->Same H H'->H' l=some (.lst (ys.map V.str))->Weak S (An S.ents) ys->Q (.ref l) H'
theorem fM:Al ["self"] ["self"] (defScope Vk):=⟨rfl,rfl,rfl,by decide +kernel,rfl,by decide +kernel,by decide +kernel⟩
theorem cU {f g:Addr} (F:FunB K "names" "Book.names" Vk f ["self"]) (T:BTxt K C) (G:FnP P w K mg base 6 g ["self","names"] (Ho 𝒪 K)) (M:Meth K C "in_order" g):FnP P w K mg base 8 f ["self"] (fE 𝒪):=by
 refine F.ok fM (fun vs H Q E h=>?_) (fun cdv A outer s H vs Q E hr h=>?_)
 ·obtain ⟨κ,S,t,_,rfl,_⟩:=h
  rfl
 ·obtain ⟨κ,S,t,hκ,rfl,B1,hs,k⟩:=h
  have hC:=𝒪.cls κ hκ
  have O:=𝒪.ok κ hκ
  obtain ⟨dx,h1⟩:=id B1.ob
  rw [hC] at h1
  refine ⟨_,Af (As (Aw (pv 0) T.cl M G (hr.mono (by decide)) (Aa (Ax (pv 0) rfl) Ac))),?_⟩
  refine ⟨_,rfl,κ.p,dx,_,rfl,h1,B1.fno O (by decide +kernel) (by decide +kernel),_,rfl,κ.p,C,dx,_,_,rfl,h1,T.cl,T.n5,Cn,?_⟩
  refine ⟨κ,S,t,_,An S.ents,hκ,rfl,B1,⟨κ.dc,rfl,.inr ⟨_,.inl B1.cn,?_⟩⟩,hs,k⟩
  unfold tabK
  rw [List.map_map,List.map_map]
  rfl
end
end Lk

namespace Lk
open PySem L2
structure Fit (S:BS):Prop where
 sp1:1≤S.span
 sp2:S.span≤10 ^ 20
 pt1:2≤S.part
 pt2:S.part≤10 ^ 30
 t0:0≤S.time
 nd:(An S.ents).Nodup
 cs:∀ e∈S.ents,0<e.2.1∧e.2.1≤10 ^ 60
 inj:∀ a∈S.ents,∀ b∈S.ents,a.2.2=b.2.2->a.1=b.1
 few:S.ents.length<64
theorem Fit.sortable {S:BS} (h:Fit S):Ch S (An S.ents) where
 there:=fun n hn=>by
  cases e:A1 S.ents n with
  | some x=>exact ⟨x,rfl⟩
  | none=>exact absurd hn (Fq e)
 few:=by rw [List.length_map]; exact h.few
 nd:=h.nd
 lasts:=h.inj
def Ij (p t:Int) (e:Str×Int×Int):Bool:=decide (0<Ce e.2.1 p t)
def oldE (p t:Int) (e:Str×Int×Int):Str×Int×Int:=(e.1,Ce e.2.1 p t,e.2.2)
def ageE (es:List (Str×Int×Int)) (p t:Int):List (Str×Int×Int):=(es.filter (Ij p t)).map (oldE p t)
def Cz (es:List (Str×Int×Int)) (p t:Int):List (Str×Int×Int):=es.filter fun e=>!Ij p t e
theorem Lr (a b:List (Str×Int×Int)) (p t:Int):ageE (a++b) p t=ageE a p t++ageE b p t:=by unfold ageE; rw [List.filter_append,List.map_append]
theorem J7 (a b:List (Str×Int×Int)) (p t:Int):Cz (a++b) p t=Cz a p t++Cz b p t:=by unfold Cz; rw [List.filter_append]
theorem Jg {es:List (Str×Int×Int)} {p t:Int} {n:Str} (h:n∈An (ageE es p t)):n∈An es:=by
 obtain ⟨e,he,rfl⟩:=List.mem_map.mp h
 obtain ⟨x,hx,rfl⟩:=List.mem_map.mp he
 exact List.mem_map.mpr ⟨x,(List.mem_filter.mp hx).1,rfl⟩
def ageS (S:BS) (times:Int):BS:={S with ents:=ageE S.ents S.part times}
def Bl (S:BS) (steps:Int):Int:=(S.time+steps) / S.span - S.time / S.span
def Bb (S:BS) (steps:Int):BS:={S with time:=S.time+steps,ents:=if 0<Bl S steps then ageE S.ents S.part (Bl S steps) else S.ents}
def Kz (S:BS) (times:Int) (qs:List (Int×Str)):Prop:=qs.Perm ((Cz S.ents S.part times).map fun e=>(e.2.2,e.1))∧qs.Pairwise fun a b=>a.1<b.1
def Cy (es:List (Str×Int×Int)) (n:Str) (w d:Int):List (Str×Int×Int):=
 match A1 es n with
 | some _=>es.map fun e=>if e.1=n then (e.1,e.2.1+w,d) else e
 | none=>es++[(n,w,d)]
theorem Fp {es:List (Str×Int×Int)} {n:Str} {w d:Int} (h:A1 es n=none):Cy es n w d=es++[(n,w,d)]:=by unfold Cy; rw [h]
theorem Zf {a b:List (Str×Int×Int)} {e:Str×Int×Int} {w d:Int} (ha:e.1∉An a) (hb:e.1∉An b):Cy (a++e::b) e.1 w d=a++(e.1,e.2.1+w,d)::b:=by
 have other:∀ {l:List (Str×Int×Int)},e.1∉An l->(l.map fun x=>if x.1=e.1 then (x.1,x.2.1+w,d) else x)=l:=by
  intro l
  induction l with
  | nil=>intro _; rfl
  | cons x r ih=>
    intro h
    rw [List.map_cons,if_neg (fun z=>h (by rw [← z]; exact List.mem_cons_self)),ih fun z=>h (List.mem_cons_of_mem _ z)]
 unfold Cy
 rw [Dt ha]
 show List.map _ (a++e::b)=_
 rw [List.map_append,other ha,List.map_cons,if_pos rfl,other hb]
theorem P0 {a b:List (Str×Int×Int)} {e:Str×Int×Int} (h:(An (a++e::b)).Nodup):e.1∉An a∧e.1∉An b:=by
 unfold An at h
 rw [List.map_append,List.map_cons,List.nodup_append] at h
 obtain ⟨_,h2,h3⟩:=h
 exact ⟨fun z=>h3 _ z _ List.mem_cons_self rfl,(List.nodup_cons.mp h2).1⟩
section
variable {P:Program} {w:World} {K:PySem.W.Frag} {mg:Str->Option Value} {base:Heap} {τ:Type} {C:Addr} (𝒪:Objs τ C)
theorem R8 {n:Nat} (h:n<64):n<sizeLine:=Nat.lt_of_lt_of_le h (by decide)
def Q3:Sp:=fun vs H Q _=>∃ κ S t n w,𝒪.is κ∧vs=[.ref κ.p,.str n,.int w]∧Ah κ S t H∧(An S.ents).Nodup∧S.ents.length<64∧∀ H',Ah κ {S with ents:=Cy S.ents n w S.deeds} t H'->Fr κ H H'->Q .non H'
theorem jI:Al ["self","name","weight"] ["self","name","weight"] (defScope bK):=⟨rfl,rfl,rfl,by decide +kernel,rfl,by decide +kernel,by decide +kernel⟩
theorem R1 {f:Addr} (F:FunB K "grow" "Book.grow" bK f ["self","name","weight"]) (T:BTxt K C):FnP P w K mg base 1 f ["self","name","weight"] (Q3 𝒪):=by
 refine F.ok jI (fun vs H Q E h=>?_) (fun cdv A outer s H vs Q E hr h=>?_)
 ·obtain ⟨κ,S,t,n,w,_,rfl,_⟩:=h
  rfl
 ·obtain ⟨κ,S,t,n,w,hκ,rfl,B,hnd,hfew,k⟩:=h
  have hC:=𝒪.cls κ hκ
  have O:=𝒪.ok κ hκ
  obtain ⟨dx,h1⟩:=B.ob
  rw [hC] at h1
  have hu:=Dj hr
  have npc:=B.pc
  have npl:=B.pl
  refine ⟨_,Ad (Jv hu (Ax (pv 0) rfl) (pv 1) (Ai Bj (N6 hu (Ax (pv 0) rfl) (pv 1) Ab ⟨rfl,rfl,rfl,rfl⟩) (pv 2)) rfl)
   (Af (Jv hu (Ax (pv 0) rfl) (pv 1) (Ax (pv 0) rfl) rfl)),?_⟩
  have ev:(valV (tabK mC S.ents) (Sum.inr n:Key)).getD (.int 0)=.int (cntE S n):=by
   rw [Br]
   unfold cntE
   cases A1 S.ents n <;> rfl
  refine ⟨_,rfl,κ.p,C,dx,_,_,rfl,h1,T.cl,T.n5,Cn,κ.dc,rfl,.inl ⟨_,.inl B.cn⟩,_,rfl,_,DGet.k (k:=Sum.inr n) B.cn,_,rfl,cntE S n,w,ev,rfl,?_⟩
  refine ⟨_,rfl,κ.p,C,dx,_,_,rfl,h1,T.cl,T.n5,Cn,_,rfl,κ.dc,_,rfl,DPut.k (k:=Sum.inr n) B.cn (by rw [F0]; exact R8 hfew),?_⟩
  have h1':∀ o,(upd H κ.dc o) κ.p=some (.ins C dx (Bm S κ.dc κ.dl (κ.ex t))):=fun o=>by rw [Ae npc]; exact h1
  have hl':∀ o,(upd H κ.dc o) κ.dl=some (.dK (tabK mL S.ents)):=fun o=>by rw [Ae O.ne.symm]; exact B.ls
  refine ⟨_,rfl,κ.p,C,dx,_,_,rfl,h1' _,T.cl,T.n4,Ih,_,rfl,κ.p,C,dx,_,_,rfl,h1' _,T.cl,T.n6,Fu,_,rfl,κ.dl,_,rfl,DPut.k (k:=Sum.inr n) (hl' _) (by rw [F0]; exact R8 hfew),?_⟩
  have e1:putK (tabK mC S.ents) (Sum.inr n:Key) (.int (cntE S n+w))=tabK mC (Cy S.ents n w S.deeds)∧putK (tabK mL S.ents) (Sum.inr n:Key) (.int S.deeds)=tabK mL (Cy S.ents n w S.deeds):=by
   cases e:A1 S.ents n with
   | none=>
     have v1:valV (tabK mC S.ents) (Sum.inr n:Key)=none:=by rw [Br,e]; rfl
     have v2:valV (tabK mL S.ents) (Sum.inr n:Key)=none:=by rw [Br,e]; rfl
     have c0:cntE S n=0:=by unfold cntE; rw [e]; rfl
     rw [Fp e,N1 _ v1,N1 _ v2,Bz,Bz,c0,Int.zero_add]
     exact ⟨rfl,rfl⟩
   | some x=>
     have c0:cntE S n=x.2.1:=by unfold cntE; rw [e]; rfl
     obtain ⟨en,a,b,es,ha⟩:=Be e
     subst en
     rw [es] at hnd
     obtain ⟨ha,hb⟩:=P0 hnd
     rw [c0,es,Zf ha hb,N2 ha hb,N2 ha hb,Bz,Bz]
     exact ⟨rfl,rfl⟩
  refine k _ ⟨⟨dx,?_⟩,?_,?_,?_,Ei (Ei B.al (by intro xs z; cases z)) (by intro xs z; cases z)⟩ ?_
  ·rw [Ae npl,hC]; exact h1' _
  ·rw [Ae O.ne,Ag]; exact congrArg (fun l=>some (HO.dK l)) e1.1
  ·rw [Ag]; exact congrArg (fun l=>some (HO.dK l)) e1.2
  ·exact O.onU (O.onU B.ex (.inr (.inl rfl)) B.cn (by intro xs z; cases z)) (.inr (.inr (.inl rfl))) (hl' _) (by intro xs z; cases z)
  ·exact fun b o e n=>by rw [Ae (fun z=>n (by rw [z]; exact O.ol)),Ae (fun z=>n (by rw [z]; exact O.oc))]; exact e
variable (fadeF:Int->Str->Int->τ->τ)
def Q4:Sp:=fun vs H Q _=>∃ κ S t n l,𝒪.is κ∧vs=[.ref κ.p,.str n,.int l]∧Ah κ S t H∧∀ H',Ah κ S (fadeF S.deeds n l t) H'->Fr κ H H'->Q .non H'
def Dn (d:Int) (qs:List (Int×Str)) (t:τ):τ:=qs.foldl (fun t q=>fadeF d q.2 q.1 t) t
def K4:Sp:=fun vs H Q _=>∃ κ S t times,𝒪.is κ∧vs=[.ref κ.p,.int times]∧Ah κ S t H∧Fit S∧0<times∧∀ qs H',Kz S times qs->Ah κ (ageS S times) (Dn fadeF S.deeds qs t) H'->Fr κ H H'->Q .non H'
theorem Db:Al ["self","times","faded","name","count","last"] ["self","times"] (defScope Ix):=⟨rfl,rfl,rfl,by decide +kernel,rfl,by decide +kernel,by decide +kernel⟩
def midE (es:List (Str×Int×Int)) (p t:Int) (i:Nat):List (Str×Int×Int):=ageE (es.take i) p t++es.drop i
theorem gY {es:List (Str×Int×Int)} {p t:Int} {i:Nat} {e:Str×Int×Int} (h:es[i]?=some e):midE es p t i=ageE (es.take i) p t++e::es.drop (i+1):=by
 obtain ⟨hi,rfl⟩:=List.getElem?_eq_some_iff.mp h
 unfold midE
 rw [List.drop_eq_getElem_cons hi]
theorem Lw {α:Type} {es:List α} {i:Nat} {e:α} (h:es[i]?=some e):es.take (i+1)=es.take i++[e]:=by
 rw [List.take_add_one,h]; rfl
theorem Y6 {es:List (Str×Int×Int)} {p t:Int} {i:Nat} {e:Str×Int×Int} (h:es[i]?=some e) (hs:0<Ce e.2.1 p t):midE es p t (i+1)=ageE (es.take i) p t++(oldE p t e)::es.drop (i+1):=by
 unfold midE
 rw [Lw h,Lr]
 have:ageE [e] p t=[oldE p t e]:=by
  unfold ageE
  rw [List.filter_cons,if_pos (show Ij p t e=true from decide_eq_true hs)]
  rfl
 rw [this,List.append_assoc]
 rfl
theorem gX {es:List (Str×Int×Int)} {p t:Int} {i:Nat} {e:Str×Int×Int} (h:es[i]?=some e) (hs:¬ 0<Ce e.2.1 p t):midE es p t (i+1)=ageE (es.take i) p t++es.drop (i+1)∧Cz (es.take (i+1)) p t=Cz (es.take i) p t++[e]:=by
 have hf:Ij p t e=false:=decide_eq_false hs
 unfold midE
 rw [Lw h,Lr,J7]
 have h1:ageE [e] p t=[]:=by
  unfold ageE
  rw [List.filter_cons,if_neg (by rw [hf]; simp)]
  rfl
 have h2:Cz [e] p t=[e]:=by
  unfold Cz
  rw [List.filter_cons,if_pos (by rw [hf]; rfl)]
  rfl
 rw [h1,h2,List.append_nil]
 exact ⟨rfl,rfl⟩
theorem Zg {es:List (Str×Int×Int)} {p t:Int} {i:Nat} {e:Str×Int×Int} (h:es[i]?=some e) (hs:0<Ce e.2.1 p t):Cz (es.take (i+1)) p t=Cz (es.take i) p t:=by
 rw [Lw h,J7]
 have h2:Cz [e] p t=[]:=by
  unfold Cz
  rw [List.filter_cons,if_neg (by rw [show Ij p t e=true from decide_eq_true hs]; simp)]
  rfl
 rw [h2,List.append_nil]
theorem Y5 {es:List (Str×Int×Int)} {p t:Int} {i:Nat} {e:Str×Int×Int} (hnd:(An es).Nodup) (h:es[i]?=some e):e.1∉An (ageE (es.take i) p t)∧e.1∉An (es.drop (i+1)):=by
 obtain ⟨hi,rfl⟩:=List.getElem?_eq_some_iff.mp h
 have e1:es=es.take i++es[i]::es.drop (i+1):=by
  conv=>lhs; rw [← List.take_append_drop i es,List.drop_eq_getElem_cons hi]
 rw [e1] at hnd
 obtain ⟨h1,h2⟩:=P0 hnd
 refine ⟨fun z=>h1 ?_,?_⟩
 ·simpa using Jg z
 ·simpa using h2
end
end Lk

namespace Lk
open PySem L2
section
variable {P:Program} {w:World} {K:PySem.W.Frag} {mg:Str->Option Value} {base:Heap} {τ:Type} {C:Addr} (𝒪:Objs τ C) (fadeF:Int->Str->Int->τ->τ)
structure Mid (κ:Kd τ) (S:BS) (t:τ) (H H':Hp) (times:Int) (fl ls:Addr) (i:Nat) (ts:List (Addr×Str×Int×Int)):Prop where
 hl:H' ls=some (.lst (S.ents.map fun e=>.str e.1))
 hf:H' fl=some (.lst (ts.map fun q=>.ref q.1))
 ht:∀ q∈ts,H' q.1=some (.tup [.int q.2.2.2,.str q.2.1])
 hg:ts.map (·.2)=Cz (S.ents.take i) S.part times
 bk:Ah κ {S with ents:=midE S.ents S.part times i} t H'
 fr:Fr κ H H'
theorem Ik {α β:Type} (g:α->β):∀ {m:List β} {l:List α},m.Perm (l.map g)->∃ k:List α,k.Perm l∧m=k.map g
 | [],l,h=>by
   have:=h.length_eq
   rw [List.length_map] at this
   exact ⟨[],by rw [List.length_eq_zero_iff.mp this.symm],rfl⟩
 | x::r,l,h=>by
   obtain ⟨a,ha,rfl⟩:=List.mem_map.mp (h.mem_iff.mp List.mem_cons_self)
   obtain ⟨s1,s2,rfl⟩:=List.append_of_mem ha
   have h2:(g a::r).Perm (g a::(s1++s2).map g):=by
    refine h.trans ?_
    rw [List.map_append,List.map_cons,List.map_append]
    exact List.perm_middle
   obtain ⟨k,hk,rfl⟩:=Ik g h2.cons_inv
   exact ⟨a::k,(hk.cons a).trans List.perm_middle.symm,rfl⟩
theorem We {S:BS} {times:Int} {ts:List (Addr×Str×Int×Int)} (hg:ts.map (·.2)=Cz S.ents S.part times) {zs qs:List (V×List Int)} (hz:zs=ts.map fun q=>(V.ref q.1,[q.2.2.2])) (h:G9 zs qs) :
  ∃ us:List (Addr×Str×Int×Int),us.Perm ts∧qs=us.map (fun q=>(V.ref q.1,[q.2.2.2]))∧Kz S times (us.map fun q=>(q.2.2.2,q.2.1)):=by
 subst hz
 obtain ⟨us,hp,rfl⟩:∃ us:List (Addr×Str×Int×Int),us.Perm ts∧qs=us.map (fun q=>(V.ref q.1,[q.2.2.2])):=Ik _ h.1
 refine ⟨us,hp,rfl,?_,?_⟩
 ·rw [← hg,List.map_map]
  exact hp.map _
 ·have:=h.2
  rw [List.pairwise_map] at this ⊢
  refine this.imp fun {a b} hab=>?_
  rw [HT.Ci] at hab
  by_cases e:a.2.2.2=b.2.2.2
  ·rw [if_pos e,HT.Eu] at hab; cases hab
  ·rw [if_neg e] at hab; exact of_decide_eq_true hab
theorem Fj {f ga gf:Addr} (F:FunB K "age_counts" "Book.age_counts" Ix f ["self","times"]) (T:BTxt K C) (B:Blt mg) (Ga:FnP P w K mg base 1 ga ["count","part","times"] aQ) (hga:mg "aged"=some (.ref ga)) (Gf:FnP P w K mg base 8 gf ["self","name","last"] (Q4 𝒪 fadeF)) (Mf:Meth K C "fade" gf) :
  FnP P w K mg base 12 f ["self","times"] (K4 𝒪 fadeF):=by
 refine F.ok Db (fun vs H Q E h=>?_) (fun cdv A outer s H vs Q E hr h=>?_)
 ·obtain ⟨κ,S,t,times,_,rfl,_⟩:=h
  rfl
 ·obtain ⟨κ,S,t,times,hκ,rfl,B0,fit,htimes,k⟩:=h
  have hC:=𝒪.cls κ hκ
  have O:=𝒪.ok κ hκ
  have hu:=Dj hr
  refine ⟨_,Ad (A3 (i:=2) Db.nd rfl (Or.inl rfl) (C5 Ac))
   (Ad (Ko PassesOwn.never rfl (Mj (Hw (Wp rfl) rfl B.list PyProof.Rows.boot_list (Aa (Ax (pv 0) rfl) Ac))) (By (i:=3) Db.nd rfl (Or.inl rfl))
     (Ad (A3 (i:=4) Db.nd rfl (Or.inl rfl) (Am Ga (hr.mono (by decide)) hga (Aa (D7 hu (Ax (pv 0) rfl) (pv 3) (fun _ _=>rfl)) (Aa (Ax (pv 0) rfl) (Aa (pv 1) Ac)))))
     (Af (Az (Ar iM (pv 4) Ab (Au _)) (Af (Jv hu (Ax (pv 0) rfl) (pv 3) (pv 4) rfl))
       (Ad (Ak (Pw PySem.F.plainAttrs_list PySem.F.slot_list_append PySem.F.type_list_append Ks (pv 2) (Aa (Gj (Aa (D7 hu (Ax (pv 0) rfl) (pv 3) (fun _ _=>rfl)) (Aa (pv 3) Ac))) Ac)))
       (Ad (Ak (N5 (Ax (pv 0) rfl) (pv 3) ⟨rfl,rfl,rfl,rfl⟩)) (Af (Ak (N5 (Ax (pv 0) rfl) (pv 3) ⟨rfl,rfl,rfl,rfl⟩)))))))))
   (Af (Ko PassesOwn.never rfl (Mj (Bi (Uz rfl) rfl B.sorted PyProof.Rows.boot_sorted (Aa (pv 2) Ac))) (Ru rfl (Dw (By (i:=5) Db.nd rfl (Or.inl rfl)) (Dw (By (i:=3) Db.nd rfl (Or.inl rfl)) Mm)))
     (Af (Ak (Aw (pv 0) T.cl Mf Gf (hr.mono (by decide)) (Aa (pv 3) (Aa (pv 5) Ac)))))))),?_⟩
  refine ⟨by decide,fun fl hfl=>?_⟩
  have Sm1:Same H (upd H fl (.lst [])):=Same.upd hfl
  have B1:=B0.same O Sm1
  obtain ⟨dx,h1⟩:=B1.ob
  rw [hC] at h1
  refine ⟨_,rfl,κ.p,C,dx,_,_,rfl,h1,T.cl,T.n5,Cn,κ.dc,_,rfl,.inl B1.cn,fun ls hls=>?_⟩
  have Sm2:Same (upd H fl (.lst [])) (upd (upd H fl (.lst [])) ls (.lst ((tabK mC S.ents).map fun kv=>kV kv.1))):=Same.upd hls
  have ekeys:((tabK mC S.ents).map fun kv=>kV kv.1)=S.ents.map fun e=>V.str e.1:=by unfold tabK; rw [List.map_map]; rfl
  have hls2:(upd (upd H fl (.lst [])) ls (.lst ((tabK mC S.ents).map fun kv=>kV kv.1))) ls=some (.lst (S.ents.map fun e=>.str e.1)):=by rw [Ag,ekeys]
  have B2:=B1.same O Sm2
  have nfl:¬ κ.own fl:=B0.new hfl
  have nls:¬ κ.own ls:=B1.new hls
  have nfls:fl≠ls:=Aj Ag hls
  refine ⟨ls,rfl,⟨_,SqL.of hls2⟩,Ot (K:=K) (a:=ls) (xs:=S.ents.map fun e=>V.str e.1) (fun i σ H'=>∃ ts z3 z4,σ=[some (.ref κ.p),some (.int times),some (.ref fl),z3,z4,none]∧Mid κ S t H H' times fl ls i ts)
   ⟨[],none,none,rfl,?_⟩ (fun i σ H' _ ⟨ts,z3,z4,_,M⟩=>SqL.of M.hl) ?_ ?_⟩
  ·refine ⟨hls2,?_,fun q hq=>by simp at hq,rfl,?_,Fr.of_same (Sm1.trans Sm2)⟩
   ·exact Sm2 _ _ Ag
   ·exact B2
  ·-- a turn
   rintro i x σ H1 hi ⟨ts,z3,z4,rfl,M⟩
   obtain ⟨e,he,rfl⟩:∃ e,S.ents[i]?=some e∧x=.str e.1:=by
    rw [List.getElem?_map] at hi
    cases q:S.ents[i]? with
    | none=>rw [q] at hi; cases hi
    | some e=>rw [q] at hi; exact ⟨e,rfl,(Option.some.inj hi).symm⟩
   have hmem:e∈S.ents:=List.mem_of_getElem? he
   obtain ⟨hap1,hap2⟩:=Y5 (p:=S.part) (t:=times) fit.nd he
   obtain ⟨c1,c2⟩:=fit.cs e hmem
   have eM:=gY (p:=S.part) (t:=times) he
   obtain ⟨dx1,g1⟩:=M.bk.ob
   rw [hC] at g1
   have gc:H1 κ.dc=some (.dK (tabK mC (ageE (S.ents.take i) S.part times++e::S.ents.drop (i+1)))):=by rw [← eM]; exact M.bk.cn
   have gl:H1 κ.dl=some (.dK (tabK mL (ageE (S.ents.take i) S.part times++e::S.ents.drop (i+1)))):=by rw [← eM]; exact M.bk.ls
   have vc:DGet H1 κ.dc (.str e.1) (some (.int e.2.1)):=by
    have:=DGet.k (k:=Sum.inr e.1) gc
    rw [Br,Dt hap1] at this
    exact this
   have vl:DGet H1 κ.dl (.str e.1) (some (.int e.2.2)):=by
    have:=DGet.k (k:=Sum.inr e.1) gl
    rw [Br,Dt hap1] at this
    exact this
   have npc:=M.bk.pc
   have npl:=M.bk.pl
   refine ⟨_,rfl,κ.p,C,dx1,_,_,rfl,g1,T.cl,T.n5,Cn,_,rfl,κ.dc,_,rfl,vc,_,rfl,κ.p,C,dx1,_,_,rfl,g1,T.cl,T.n2,Sv,_,rfl,e.2.1,S.part,times,rfl,by omega,c2,fit.pt1,fit.pt2,by omega,?_⟩
   refine ⟨_,rfl,_,_,rfl,rfl,_,rfl,?_⟩
   have hlen:(ageE (S.ents.take i) S.part times++e::S.ents.drop (i+1)).length<64:=by
    have l1:(ageE (S.ents.take i) S.part times).length≤i:=by
     unfold ageE
     rw [List.length_map]
     exact Nat.le_trans (List.length_filter_le _ _) (by rw [List.length_take]; omega)
    have l2:i<S.ents.length:=(List.getElem?_eq_some_iff.mp he).1
    have l3:=fit.few
    rw [List.length_append,List.length_cons,List.length_drop]
    omega
   refine ite2 (fun hpos=>?_) (fun hneg=>?_)
   ·have hpos:0<Ce e.2.1 S.part times:=of_decide_eq_true hpos
    refine ⟨_,rfl,_,rfl,κ.p,C,dx1,_,_,rfl,g1,T.cl,T.n5,Cn,_,rfl,κ.dc,_,rfl,DPut.k (k:=Sum.inr e.1) gc (by rw [F0]; exact R8 hlen),?_⟩
    refine ⟨ts,_,_,rfl,?_,?_,fun q hq=>?_,?_,?_,?_⟩
    ·rw [Ae (fun z=>nls (by rw [z]; exact O.oc))]; exact M.hl
    ·rw [Ae (fun z=>nfl (by rw [z]; exact O.oc))]; exact M.hf
    ·rw [Ae (Il (M.ht q hq) gc (by intro z; cases z))]; exact M.ht q hq
    ·rw [Zg he hpos]; exact M.hg
    ·have eN:=Y6 (p:=S.part) (t:=times) he hpos
     refine ⟨⟨dx1,?_⟩,?_,?_,O.onU M.bk.ex (.inr (.inl rfl)) gc (by intro xs z; cases z),Ei M.bk.al (by intro xs z; cases z)⟩
     ·rw [Ae npc,hC]; exact g1
     ·rw [Ag,N2 hap1 hap2]
      show _=some (HO.dK (tabK mC (midE S.ents S.part times (i+1))))
      rw [eN,Bz]
      rfl
     ·rw [Ae O.ne.symm]
      show _=some (HO.dK (tabK mL (midE S.ents S.part times (i+1))))
      rw [eN,gl,Bz,Bz]
      rfl
    ·exact M.fr.trans (Fr.upd O O.oc)
   ·have hneg:¬ 0<Ce e.2.1 S.part times:=fun z=>hneg (decide_eq_true z)
    obtain ⟨eN,eG⟩:=gX (p:=S.part) (t:=times) he hneg
    refine ⟨_,rfl,.inl ⟨rfl,_,SqL.of M.hf⟩,_,rfl,κ.p,C,dx1,_,_,rfl,g1,T.cl,T.n6,Fu,_,rfl,κ.dl,_,rfl,vl,_,rfl,(by show 2≤sizeLine; decide),fun tq htq=>?_⟩
    have Smt:Same H1 (upd H1 tq (.tup [.int e.2.2,.str e.1])):=Same.upd htq
    have hf2:=Smt _ _ M.hf
    have nts:ts.length<64:=by
     have:=congrArg List.length M.hg
     rw [List.length_map] at this
     rw [this]
     refine Nat.lt_of_le_of_lt ?_ fit.few
     unfold Cz
     exact Nat.le_trans (List.length_filter_le _ _) (by rw [List.length_take]; omega)
    refine ⟨fl,_,_,rfl,rfl,hf2,by rw [List.length_map]; exact R8 nts,?_⟩
    have hfne:∀ b o,H1 b=some o->(∀ l,o≠.lst l)->b≠fl:=fun b o e1 hne=>Il e1 M.hf (fun z=>hne _ z)
    have g1':(upd (upd H1 tq (.tup [.int e.2.2,.str e.1])) fl (.lst ((ts.map fun q=>V.ref q.1)++[.ref tq]))) κ.p=some (.ins C dx1 (Bm {S with ents:=midE S.ents S.part times i} κ.dc κ.dl (κ.ex t))):=by
     rw [Ae (hfne _ _ g1 (by intro l z; cases z))]; exact Smt _ _ g1
    have gc':(upd (upd H1 tq (.tup [.int e.2.2,.str e.1])) fl (.lst ((ts.map fun q=>V.ref q.1)++[.ref tq]))) κ.dc=some (.dK (tabK mC (ageE (S.ents.take i) S.part times++e::S.ents.drop (i+1)))):=by
     rw [Ae (hfne _ _ gc (by intro l z; cases z))]; exact Smt _ _ gc
    have gl':(upd (upd H1 tq (.tup [.int e.2.2,.str e.1])) fl (.lst ((ts.map fun q=>V.ref q.1)++[.ref tq]))) κ.dl=some (.dK (tabK mL (ageE (S.ents.take i) S.part times++e::S.ents.drop (i+1)))):=by
     rw [Ae (hfne _ _ gl (by intro l z; cases z))]; exact Smt _ _ gl
    generalize hH2:upd (upd H1 tq (.tup [.int e.2.2,.str e.1])) fl (.lst ((ts.map fun q=>V.ref q.1)++[.ref tq]))=H2 at g1' gc' gl' ⊢
    have keep2:∀ b o,H1 b=some o->b≠fl->H2 b=some o:=fun b o e1 hb=>by rw [← hH2,Ae hb]; exact Smt _ _ e1
    have vc':valV (tabK mC (ageE (S.ents.take i) S.part times++e::S.ents.drop (i+1))) (Sum.inr e.1:Key)=some (.int e.2.1):=by rw [Br,Dt hap1]; rfl
    have vl':valV (tabK mL (ageE (S.ents.take i) S.part times++e::S.ents.drop (i+1))) (Sum.inr e.1:Key)=some (.int e.2.2):=by rw [Br,Dt hap1]; rfl
    refine ⟨_,rfl,κ.p,C,dx1,_,_,rfl,g1',T.cl,T.n5,Cn,κ.dc,rfl,.inl ⟨_,.inl gc'⟩,_,rfl,_,Sum.inr e.1,_,gc',rfl,vc',?_⟩
    have g1'':∀ o,(upd H2 κ.dc o) κ.p=some (.ins C dx1 (Bm {S with ents:=midE S.ents S.part times i} κ.dc κ.dl (κ.ex t))):=fun o=>by rw [Ae npc]; exact g1'
    have gl'':∀ o,(upd H2 κ.dc o) κ.dl=some (.dK (tabK mL (ageE (S.ents.take i) S.part times++e::S.ents.drop (i+1)))):=fun o=>by rw [Ae O.ne.symm]; exact gl'
    refine ⟨_,rfl,κ.p,C,dx1,_,_,rfl,g1'' _,T.cl,T.n6,Fu,κ.dl,rfl,.inl ⟨_,.inl (gl'' _)⟩,_,rfl,_,Sum.inr e.1,_,gl'' _,rfl,vl',?_⟩
    refine ⟨ts++[(tq,e)],_,_,rfl,?_,?_,fun q hq=>?_,?_,?_,?_⟩
    ·rw [Ae (fun z=>nls (by rw [z]; exact O.ol)),Ae (fun z=>nls (by rw [z]; exact O.oc))]
     exact keep2 _ _ M.hl (Ne.symm nfls)
    ·rw [Ae (fun z=>nfl (by rw [z]; exact O.ol)),Ae (fun z=>nfl (by rw [z]; exact O.oc)),← hH2,Ag,List.map_append]
     rfl
    ·have hq':H2 q.1=some (.tup [.int q.2.2.2,.str q.2.1]):=by
      rcases List.mem_append.mp hq with z | z
      ·exact keep2 _ _ (M.ht q z) (hfne _ _ (M.ht q z) (by intro l z; cases z))
      ·rw [List.mem_singleton.mp z,← hH2,Ae (Ne.symm (Aj M.hf htq)),Ag]
     rw [Ae (Il hq' gl' (by intro z; cases z)),Ae (Il hq' gc' (by intro z; cases z))]
     exact hq'
    ·rw [List.map_append,M.hg,eG]; rfl
    ·have on2:κ.on t H2:=by
      rw [← hH2]
      exact O.onU ((M.bk.same O Smt).ex) (.inr (.inr (.inr nfl))) hf2 (by intro xs z; cases z)
     refine ⟨⟨dx1,?_⟩,?_,?_,O.onU (O.onU on2 (.inr (.inl rfl)) gc' (by intro xs z; cases z)) (.inr (.inr (.inl rfl))) (gl'' _) (by intro xs z; cases z),Ei (Ei ?_ (by intro xs z; cases z)) (by intro xs z; cases z)⟩
     ·rw [Ae npl,hC]; exact g1'' _
     ·rw [Ae O.ne,Ag,Qj hap1 hap2]
      show _=some (HO.dK (tabK mC (midE S.ents S.part times (i+1))))
      rw [eN]
     ·rw [Ag,Qj hap1 hap2]
      show _=some (HO.dK (tabK mL (midE S.ents S.part times (i+1))))
      rw [eN]
     ·rw [← hH2]; exact Ei (M.bk.same O Smt).al (by intro xs z; cases z)
    ·intro b o e1 n1
     have hb1:=M.fr b o e1 n1
     rw [Ae (fun z=>n1 (by rw [z]; exact O.ol)),Ae (fun z=>n1 (by rw [z]; exact O.oc))]
     exact keep2 b o hb1 (Aj e1 hfl)
  ·-- behind the first loop
   rintro σ H1 ⟨ts,z3,z4,rfl,M⟩
   rw [List.length_map] at M
   have hg:ts.map (·.2)=Cz S.ents S.part times:=by
    have:=M.hg
    rw [List.take_of_length_le (Nat.le_refl _)] at this
    exact this
   have bk:Ah κ (ageS S times) t H1:=by
    have:=M.bk
    unfold midE at this
    rw [List.take_of_length_le (Nat.le_refl _),List.drop_of_length_le (Nat.le_refl _),List.append_nil] at this
    exact this
   have hmem:∀ q∈ts,q.2∈S.ents:=fun q hq=>by
    have:q.2∈Cz S.ents S.part times:=by rw [← hg]; exact List.mem_map.mpr ⟨q,hq,rfl⟩
    exact (List.mem_filter.mp this).1
   have hnd:(ts.map fun q=>q.2.1).Nodup:=by
    have:((ts.map (·.2)).map (·.1)).Nodup:=by
     rw [hg]
     unfold Cz
     exact (List.filter_sublist.map _).nodup fit.nd
    rw [List.map_map] at this
    exact this
   have nts:ts.length<64:=by
    have:=congrArg List.length hg
    rw [List.length_map] at this
    rw [this]
    exact Nat.lt_of_le_of_lt (List.length_filter_le _ _) fit.few
   refine ⟨_,rfl,_,ts.map fun q=>(V.ref q.1,[q.2.2.2]),1,rfl,⟨fl,rfl,.inl (SqL.of (by rw [List.map_map]; exact M.hf))⟩,by rw [List.length_map]; exact nts,by decide,?_,?_,?_,fun qs D sb hD=>?_⟩
   ·intro z hz
    obtain ⟨q,hq,rfl⟩:=List.mem_map.mp hz
    rfl
   ·rw [List.map_map,List.pairwise_map]
    have:ts.Pairwise fun a b=>a.2.1≠b.2.1:=by
     have:=hnd
     unfold List.Nodup at this
     rw [List.pairwise_map] at this
     exact this
    refine List.Pairwise.imp_of_mem ?_ this
    intro a b ha hb hab he
    exact hab (fit.inj _ (hmem a ha) _ (hmem b hb) (List.cons.inj he).1)
   ·intro z hz
    obtain ⟨q,hq,rfl⟩:=List.mem_map.mp hz
    exact ⟨q.1,[.str q.2.1],rfl,SqT.of (M.ht q hq)⟩
   ·obtain ⟨us,hp,rfl,fo⟩:=We hg rfl sb
    have SmD:Same H1 (upd H1 D (.lst ((us.map fun q=>(V.ref q.1,[q.2.2.2])).map (·.1)))):=Same.upd hD
    have exs:(us.map fun q=>(V.ref q.1,[q.2.2.2])).map (·.1)=us.map fun q=>V.ref q.1:=by rw [List.map_map]; rfl
    have nD:¬ κ.own D:=bk.new hD
    have ntq:∀ q∈us,¬ κ.own q.1:=fun q hq=>bk.noTup (M.ht q (hp.mem_iff.mp hq))
    refine ⟨D,rfl,⟨_,SqL.of Ag⟩,Ot (K:=K) (a:=D) (xs:=us.map fun q=>V.ref q.1) (fun j σ H'=>∃ z3 z4 z5,σ=[some (.ref κ.p),some (.int times),some (.ref fl),z3,z4,z5]∧H' D=some (.lst (us.map fun q=>.ref q.1))∧(∀ q∈us,H' q.1=some (.tup [.int q.2.2.2,.str q.2.1])) ∧
      Ah κ (ageS S times) (Dn fadeF S.deeds ((us.take j).map fun q=>(q.2.2.2,q.2.1)) t) H'∧Fr κ H H')
     ⟨z3,z4,none,rfl,by rw [Ag,exs],fun q hq=>SmD _ _ (M.ht q (hp.mem_iff.mp hq)),bk.same O SmD,M.fr.trans (Fr.of_same SmD)⟩ (fun j σ H' _ ⟨_,_,_,_,hl,_⟩=>SqL.of hl) ?_ ?_⟩
    ·rintro j x σ H2 hj ⟨y3,y4,y5,rfl,hl2,ht2,b2,f2⟩
     obtain ⟨q,hq,rfl⟩:∃ q,us[j]?=some q∧x=.ref q.1:=by
      rw [List.getElem?_map] at hj
      cases e:us[j]? with
      | none=>rw [e] at hj; cases hj
      | some q=>rw [e] at hj; exact ⟨q,rfl,(Option.some.inj hj).symm⟩
     have hqm:q∈us:=List.mem_of_getElem? hq
     obtain ⟨dx2,g2⟩:=b2.ob
     rw [hC] at g2
     refine ⟨q.1,_,rfl,SqT.of (ht2 q hqm),rfl,_,_,rfl,_,_,rfl,rfl,?_⟩
     refine ⟨_,rfl,κ.p,dx2,_,rfl,g2,b2.fno O (by decide +kernel) (by decide +kernel),_,rfl,_,rfl,?_⟩
     refine ⟨κ,ageS S times,_,q.2.1,q.2.2.2,hκ,rfl,b2,fun H3 b3 f3=>?_⟩
     refine ⟨_,_,_,rfl,f3 _ _ hl2 nD,fun q' hq'=>f3 _ _ (ht2 q' hq') (ntq q' hq'),?_,f2.trans f3⟩
     rw [Lw hq,List.map_append]
     unfold Dn at b3 ⊢
     rw [List.foldl_append]
     exact b3
    ·rintro σ H2 ⟨y3,y4,y5,rfl,hl2,ht2,b2,f2⟩
     rw [List.length_map,List.take_of_length_le (Nat.le_refl _)] at b2
     exact k _ H2 fo b2 f2
end
end Lk

namespace Lk
open PySem L2
section
variable {P:Program} {w:World} {K:PySem.W.Frag} {mg:Str->Option Value} {base:Heap} {τ:Type} {C:Addr} (𝒪:Objs τ C) (fadeF:Int->Str->Int->τ->τ)
def Iq (S:BS) (steps:Int) (t t':τ):Prop:=if 0<Bl S steps then ∃ qs,Kz S (Bl S steps) qs∧t'=Dn fadeF S.deeds qs t else t'=t
def Ir:Sp:=fun vs H Q _=>∃ κ S t steps,𝒪.is κ∧vs=[.ref κ.p,.int steps]∧Ah κ S t H∧Fit S∧0≤steps∧∀ t' H',Iq fadeF S steps t t'->Ah κ (Bb S steps) t' H'->Fr κ H H'->Q (.int (Bl S steps)) H'
theorem Ni:Al ["self","steps","times"] ["self","steps"] (defScope Kn):=⟨rfl,rfl,rfl,by decide +kernel,rfl,by decide +kernel,by decide +kernel⟩
theorem Gu {f ga gc:Addr} (F:FunB K "pass_time" "Book.pass_time" Kn f ["self","steps"]) (T:BTxt K C) (Ga:FnP P w K mg base 1 ga ["span","since","upto"] Pq) (hga:mg "ageings"=some (.ref ga)) (Gc:FnP P w K mg base 12 gc ["self","times"] (K4 𝒪 fadeF)) (Mc:Meth K C "age_counts" gc) :
  FnP P w K mg base 14 f ["self","steps"] (Ir 𝒪 fadeF):=by
 refine F.ok Ni (fun vs H Q E h=>?_) (fun cdv A outer s H vs Q E hr h=>?_)
 ·obtain ⟨κ,S,t,steps,_,rfl,_⟩:=h
  rfl
 ·obtain ⟨κ,S,t,steps,hκ,rfl,B0,fit,hst,k⟩:=h
  have hC:=𝒪.cls κ hκ
  have O:=𝒪.ok κ hκ
  obtain ⟨dx,h1⟩:=B0.ob
  rw [hC] at h1
  refine ⟨_,Ad (A3 (i:=2) Ni.nd rfl (Or.inl rfl) (Am Ga (hr.mono (by decide)) hga (Aa (Ax (pv 0) rfl) (Aa (Ax (pv 0) rfl) (Aa (Ai Bj (Ax (pv 0) rfl) (pv 1)) Ac)))))
   (Ad (Hv (pv 0) (pv 1) Sk)
   (Ad (Az (Ar iM (pv 2) Ab (Au _)) (Af (Ak (Aw (pv 0) T.cl Mc Gc (hr.mono (by decide)) (Aa (pv 2) Ac)))) Av)
   (Af (As (pv 2))))),?_⟩
  refine ⟨_,rfl,κ.p,C,dx,_,_,rfl,h1,T.cl,T.n1,Su,_,rfl,κ.p,C,dx,_,_,rfl,h1,T.cl,T.n3,Ss,_,rfl,κ.p,C,dx,_,_,rfl,h1,T.cl,T.n3,Ss,_,rfl,_,_,rfl,rfl,S.span,S.time,S.time+steps,rfl,fit.sp1,fit.sp2,?_⟩
  refine ⟨_,rfl,κ.p,C,dx,_,_,rfl,h1,T.cl,T.n3,Ss,_,rfl,_,_,rfl,rfl,dx,_,h1,Xs (O.exl t),?_⟩
  have B1:Ah κ {S with time:=S.time+steps} t (upd H κ.p (.ins C dx (putF "time" (.int (S.time+steps)) (Bm S κ.dc κ.dl (κ.ex t))))):=by
   rw [Zi,← hC]
   exact B0.setOb O rfl
  have F1:Fr κ H (upd H κ.p (.ins C dx (putF "time" (.int (S.time+steps)) (Bm S κ.dc κ.dl (κ.ex t))))):=Fr.upd O O.op
  refine ⟨_,rfl,_,_,rfl,rfl,_,rfl,?_⟩
  refine ite2 (fun hpos=>?_) (fun hneg=>?_)
  ·have hpos:0<Bl S steps:=of_decide_eq_true hpos
   obtain ⟨dx1,g1⟩:=B1.ob
   rw [hC] at g1
   refine ⟨_,rfl,κ.p,dx1,_,rfl,g1,B1.fno O (by decide +kernel) (by decide +kernel),_,rfl,?_⟩
   refine ⟨κ,{S with time:=S.time+steps},t,Bl S steps,hκ,rfl,B1,⟨fit.sp1,fit.sp2,fit.pt1,fit.pt2,by show 0≤S.time+steps; have:=fit.t0; omega,fit.nd,fit.cs,fit.inj,fit.few⟩,hpos,fun qs H2 fo b2 f2=>?_⟩
   refine ⟨_,rfl,k (Dn fadeF S.deeds qs t) H2 ?_ ?_ (F1.trans f2)⟩
   ·unfold Iq
    rw [if_pos hpos]
    exact ⟨qs,fo,rfl⟩
   ·unfold Bb
    rw [if_pos hpos]
    exact b2
  ·have hneg:¬ 0<Bl S steps:=fun z=>hneg (decide_eq_true z)
   refine ⟨_,rfl,k t _ ?_ ?_ F1⟩
   ·unfold Iq
    rw [if_neg hneg]
   ·unfold Bb
    rw [if_neg hneg]
    exact B1
def A0 (S:BS):BS:={S with deeds:=S.deeds+1}
theorem Fit.deed {S:BS} (h:Fit S):Fit (A0 S):=⟨h.sp1,h.sp2,h.pt1,h.pt2,h.t0,h.nd,h.cs,h.inj,h.few⟩
def Fa:Sp:=fun vs H Q _=>∃ κ S t n w,𝒪.is κ∧vs=[.ref κ.p,.str n,.int w]∧Ah κ S t H∧Fit S∧A5 n∧1≤w∧w≤10 ^ 30∧∀ t' H',Iq fadeF (A0 S) 1 t t'->Ah κ (Bb (A0 S) 1) t' H'->Fr κ H H'->Q .non H'
theorem Nl:Al ["self","name","weight"] ["self","name","weight"] (defScope Hu):=⟨rfl,rfl,rfl,by decide +kernel,rfl,by decide +kernel,by decide +kernel⟩
theorem Gv {f gn gw gp:Addr} (F:FunB K "begin_ask" "Book.begin_ask" Hu f ["self","name","weight"]) (T:BTxt K C) (Gn:FnP P w K mg base 2 gn ["name"] Ez) (hgn:mg "check_name"=some (.ref gn)) (Gw:FnP P w K mg base 2 gw ["weight"] Nb) (hgw:mg "check_weight"=some (.ref gw))
  (Gp:FnP P w K mg base 14 gp ["self","steps"] (Ir 𝒪 fadeF)) (Mp:Meth K C "pass_time" gp):FnP P w K mg base 16 f ["self","name","weight"] (Fa 𝒪 fadeF):=by
 refine F.ok Nl (fun vs H Q E h=>?_) (fun cdv A outer s H vs Q E hr h=>?_)
 ·obtain ⟨κ,S,t,n,w,_,rfl,_⟩:=h
  rfl
 ·obtain ⟨κ,S,t,n,w,hκ,rfl,B0,fit,gn1,w1,w2,k⟩:=h
  have hC:=𝒪.cls κ hκ
  have O:=𝒪.ok κ hκ
  refine ⟨_,Ad (Ak (Am Gn (hr.mono (by decide)) hgn (Aa (pv 1) Ac)))
   (Ad (Ak (Am Gw (hr.mono (by decide)) hgw (Aa (pv 2) Ac)))
   (Ad (Hv (pv 0) Ab Sk)
   (Af (Ak (Aw (pv 0) T.cl Mp Gp (hr.mono (by decide)) (Aa Ab Ac)))))),?_⟩
  refine ⟨_,rfl,n,rfl,gn1,fun H1 Sm=>?_⟩
  have B1:=B0.same O Sm
  obtain ⟨dx,h1⟩:=B1.ob
  rw [hC] at h1
  refine ⟨_,rfl,w,rfl,w1,w2,?_⟩
  refine ⟨_,rfl,κ.p,C,dx,_,_,rfl,h1,T.cl,T.n4,Ih,_,_,rfl,rfl,dx,_,h1,Xs (O.exl t),?_⟩
  have B2:Ah κ (A0 S) t (upd H1 κ.p (.ins C dx (putF "deeds" (.int (S.deeds+1)) (Bm S κ.dc κ.dl (κ.ex t))))):=by
   rw [Je,← hC]
   exact B1.setOb O rfl
  obtain ⟨dx2,h2⟩:=B2.ob
  rw [hC] at h2
  refine ⟨_,rfl,κ.p,dx2,_,rfl,h2,B2.fno O (by decide +kernel) (by decide +kernel),?_⟩
  refine ⟨κ,A0 S,t,1,hκ,rfl,B2,fit.deed,by decide,fun t' H3 pt b3 f3=>?_⟩
  exact k t' H3 pt b3 (((Fr.of_same Sm).trans (Fr.upd O O.op)).trans f3)
def Es:Sp:=fun vs H Q _=>∃ κ S t steps,𝒪.is κ∧vs=[.ref κ.p,.int steps]∧Ah κ S t H∧Fit S∧0≤steps∧steps≤10 ^ 30∧∀ t' H',Iq fadeF (A0 S) steps t t'->Ah κ (Bb (A0 S) steps) t' H'->Fr κ H H'->Q (.int (Bl S steps)) H'
theorem aY:Al ["self","steps"] ["self","steps"] (defScope Xd):=⟨rfl,rfl,rfl,by decide +kernel,rfl,by decide +kernel,by decide +kernel⟩
theorem Rz {f gs gp:Addr} (F:FunB K "rest" "Book.rest" Xd f ["self","steps"]) (T:BTxt K C) (Gs:FnP P w K mg base 2 gs ["steps"] Pn) (hgs:mg "check_steps"=some (.ref gs))
  (Gp:FnP P w K mg base 14 gp ["self","steps"] (Ir 𝒪 fadeF)) (Mp:Meth K C "pass_time" gp):FnP P w K mg base 16 f ["self","steps"] (Es 𝒪 fadeF):=by
 refine F.ok aY (fun vs H Q E h=>?_) (fun cdv A outer s H vs Q E hr h=>?_)
 ·obtain ⟨κ,S,t,steps,_,rfl,_⟩:=h
  rfl
 ·obtain ⟨κ,S,t,steps,hκ,rfl,B0,fit,s0,s1,k⟩:=h
  have hC:=𝒪.cls κ hκ
  have O:=𝒪.ok κ hκ
  obtain ⟨dx,h1⟩:=B0.ob
  rw [hC] at h1
  refine ⟨_,Ad (Ak (Am Gs (hr.mono (by decide)) hgs (Aa (pv 1) Ac)))
   (Ad (Hv (pv 0) Ab Sk)
   (Af (As (Aw (pv 0) T.cl Mp Gp (hr.mono (by decide)) (Aa (pv 1) Ac))))),?_⟩
  refine ⟨_,rfl,steps,rfl,s0,s1,?_⟩
  refine ⟨_,rfl,κ.p,C,dx,_,_,rfl,h1,T.cl,T.n4,Ih,_,_,rfl,rfl,dx,_,h1,Xs (O.exl t),?_⟩
  have B2:Ah κ (A0 S) t (upd H κ.p (.ins C dx (putF "deeds" (.int (S.deeds+1)) (Bm S κ.dc κ.dl (κ.ex t))))):=by
   rw [Je,← hC]
   exact B0.setOb O rfl
  obtain ⟨dx2,h2⟩:=B2.ob
  rw [hC] at h2
  refine ⟨_,rfl,κ.p,dx2,_,rfl,h2,B2.fno O (by decide +kernel) (by decide +kernel),_,rfl,?_⟩
  exact ⟨κ,A0 S,t,steps,hκ,rfl,B2,fit.deed,s0,fun t' H3 pt b3 f3=>k t' H3 pt b3 ((Fr.upd O O.op).trans f3)⟩
def Em:Sp:=fun vs H Q _=>∃ κ S t n,𝒪.is κ∧vs=[.ref κ.p,.str n]∧Ah κ S t H∧A5 n∧∀ H',Ah κ (A0 S) t H'->Fr κ H H'->Q .non H'
theorem K7:Al ["self","name"] ["self","name"] (defScope Fc):=⟨rfl,rfl,rfl,by decide +kernel,rfl,by decide +kernel,by decide +kernel⟩
theorem Fi {f gn:Addr} (F:FunB K "begin_drop" "Book.begin_drop" Fc f ["self","name"]) (T:BTxt K C) (Gn:FnP P w K mg base 2 gn ["name"] Ez) (hgn:mg "check_name"=some (.ref gn)):FnP P w K mg base 4 f ["self","name"] (Em 𝒪):=by
 refine F.ok K7 (fun vs H Q E h=>?_) (fun cdv A outer s H vs Q E hr h=>?_)
 ·obtain ⟨κ,S,t,n,_,rfl,_⟩:=h
  rfl
 ·obtain ⟨κ,S,t,n,hκ,rfl,B0,gn1,k⟩:=h
  have hC:=𝒪.cls κ hκ
  have O:=𝒪.ok κ hκ
  refine ⟨_,Ad (Ak (Am Gn (hr.mono (by decide)) hgn (Aa (pv 1) Ac))) (Af (Hv (pv 0) Ab Sk)),?_⟩
  refine ⟨_,rfl,n,rfl,gn1,fun H1 Sm=>?_⟩
  have B1:=B0.same O Sm
  obtain ⟨dx,h1⟩:=B1.ob
  rw [hC] at h1
  refine ⟨_,rfl,κ.p,C,dx,_,_,rfl,h1,T.cl,T.n4,Ih,_,_,rfl,rfl,dx,_,h1,Xs (O.exl t),?_⟩
  refine k _ ?_ ((Fr.of_same Sm).trans (Fr.upd O O.op))
  show Ah κ (A0 S) t (upd H1 κ.p (.ins C dx (putF "deeds" (.int (S.deeds+1)) (Bm S κ.dc κ.dl (κ.ex t)))))
  rw [Je,← hC]
  exact B1.setOb O rfl
def Q5:Sp:=fun vs H Q _=>∃ κ S t n,𝒪.is κ∧vs=[.ref κ.p,.str n]∧Ah κ S t H∧A5 n∧∀ H',Ah κ (A0 S) t H'->Fr κ H H'->Q (.bl false) H'
theorem bD:Al ["self","name"] ["self","name"] (defScope Xe):=⟨rfl,rfl,rfl,by decide +kernel,rfl,by decide +kernel,by decide +kernel⟩
theorem gP {f g:Addr} (F:FunB K "drop" "Book.drop" Xe f ["self","name"]) (T:BTxt K C) (G:FnP P w K mg base 4 g ["self","name"] (Em 𝒪)) (M:Meth K C "begin_drop" g):FnP P w K mg base 6 f ["self","name"] (Q5 𝒪):=by
 refine F.ok bD (fun vs H Q E h=>?_) (fun cdv A outer s H vs Q E hr h=>?_)
 ·obtain ⟨κ,S,t,n,_,rfl,_⟩:=h
  rfl
 ·obtain ⟨κ,S,t,n,hκ,rfl,B0,gn1,k⟩:=h
  have hC:=𝒪.cls κ hκ
  have O:=𝒪.ok κ hκ
  obtain ⟨dx,h1⟩:=B0.ob
  rw [hC] at h1
  refine ⟨_,Ad (Ak (Aw (pv 0) T.cl M G (hr.mono (by decide)) (Aa (pv 1) Ac))) (Af (As C3)),?_⟩
  refine ⟨_,rfl,κ.p,dx,_,rfl,h1,B0.fno O (by decide +kernel) (by decide +kernel),_,rfl,?_⟩
  exact ⟨κ,S,t,n,hκ,rfl,B0,gn1,fun H1 b1 f1=>k H1 b1 f1⟩
def askS (S:BS) (n:Str) (w:Int):BS:=let S1:=Bb (A0 S) 1; {S1 with ents:=Cy S1.ents n w S1.deeds}
def W4:Sp:=fun vs H Q _=>∃ κ S t n w,𝒪.is κ∧vs=[.ref κ.p,.str n,.int w]∧Ah κ S t H∧Fit S∧Fit (Bb (A0 S) 1)∧A5 n∧1≤w∧w≤10 ^ 30∧∀ t' H',Iq fadeF (A0 S) 1 t t'->Ah κ (askS S n w) t' H'->Fr κ H H'->Q (.bl (A1 (Bb (A0 S) 1).ents n).isSome) H'
theorem bE:Al ["self","name","weight","known"] ["self","name","weight"] (defScope sAsk):=⟨rfl,rfl,rfl,by decide +kernel,rfl,by decide +kernel,by decide +kernel⟩
theorem jY {f gb gg:Addr} {fd:FuncData} {ds:List Value} (F:FunD K "ask" "Book.ask" sAsk f fd ds) (T:BTxt K C) (Gb:FnP P w K mg base 16 gb ["self","name","weight"] (Fa 𝒪 fadeF)) (Mb:Meth K C "begin_ask" gb)
  (Gg:FnP P w K mg base 1 gg ["self","name","weight"] (Q3 𝒪)) (Mg:Meth K C "grow" gg):FnOk P w K mg base CX0 18 f fd ["self","name","weight"] (W4 𝒪 fadeF):=by
 refine F.ok bE (fun vs H Q E h=>?_) (fun cdv A outer s H vs Q E hr h=>?_)
 ·obtain ⟨κ,S,t,n,w,_,rfl,_⟩:=h
  rfl
 ·obtain ⟨κ,S,t,n,w,hκ,rfl,B0,fit,fit1,gn1,w1,w2,k⟩:=h
  have hC:=𝒪.cls κ hκ
  have O:=𝒪.ok κ hκ
  have hu:=Dj hr
  obtain ⟨dx,h1⟩:=B0.ob
  rw [hC] at h1
  refine ⟨_,Ad (Ak (Aw (pv 0) T.cl Mb Gb (hr.mono (by decide)) (Aa (pv 1) (Aa (pv 2) Ac))))
   (Ad (A3 (i:=3) bE.nd rfl (Or.inl rfl) (Vs (Rw hu (pv 1) (Ax (pv 0) rfl))))
   (Ad (Ak (Aw (pv 0) T.cl Mg Gg (hr.mono (by decide)) (Aa (pv 1) (Aa (pv 2) Ac))))
   (Af (As (pv 3))))),?_⟩
  refine ⟨_,rfl,κ.p,dx,_,rfl,h1,B0.fno O (by decide +kernel) (by decide +kernel),_,rfl,_,rfl,?_⟩
  refine ⟨κ,S,t,n,w,hκ,rfl,B0,fit,gn1,w1,w2,fun t' H1 pt b1 f1=>?_⟩
  obtain ⟨dx1,g1⟩:=b1.ob
  rw [hC] at g1
  refine ⟨_,rfl,_,rfl,κ.p,C,dx1,_,_,rfl,g1,T.cl,T.n5,Cn,κ.dc,_,rfl,DGet.k (k:=Sum.inr n) b1.cn,?_⟩
  refine ⟨_,rfl,κ.p,dx1,_,rfl,g1,b1.fno O (by decide +kernel) (by decide +kernel),_,rfl,_,rfl,?_⟩
  refine ⟨κ,Bb (A0 S) 1,t',n,w,hκ,rfl,b1,fit1.nd,fit1.few,fun H2 b2 f2=>⟨_,rfl,?_⟩⟩
  have e:(valV (tabK mC (Bb (A0 S) 1).ents) (Sum.inr n:Key)).isSome=(A1 (Bb (A0 S) 1).ents n).isSome:=by
   rw [Br,Option.isSome_map]
  show Q (.bl (valV (tabK mC (Bb (A0 S) 1).ents) (Sum.inr n:Key)).isSome) H2
  rw [e]
  exact k t' H2 pt b2 (f1.trans f2)
def C2 (span part:Int):BS:=⟨span,part,0,0,[]⟩
def Q2 (C:Addr):Sp:=fun vs H Q _=>∃ (p dx:Addr) (span part:Int),vs=[.ref p,.int span,.int part]∧H p=some (.ins C dx [])∧1≤span∧span≤10 ^ 20∧2≤part∧part≤10 ^ 30 ∧
 ∀ dc dl H',H dc=none->H dl=none->dc≠dl->H' p=some (.ins C dx (Bm (C2 span part) dc dl []))->H' dc=some (.dK [])->H' dl=some (.dK [])->(∀ b o,H b=some o->b≠p->H' b=some o)->Q .non H'
theorem bB:Al ["self","span","part"] ["self","span","part"] (defScope T5):=⟨rfl,rfl,rfl,by decide +kernel,rfl,by decide +kernel,by decide +kernel⟩
theorem R0 {f g:Addr} (F:FunB K "__init__" "Book.__init__" T5 f ["self","span","part"]) (T:BTxt K C) (G:FnP P w K mg base 2 g ["span","part"] Tt) (hg:mg "check_rule"=some (.ref g)):FnP P w K mg base 4 f ["self","span","part"] (Q2 C):=by
 refine F.ok bB (fun vs H Q E h=>?_) (fun cdv A outer s H vs Q E hr h=>?_)
 ·obtain ⟨p,dx,span,part,rfl,_⟩:=h
  rfl
 ·obtain ⟨p,dx,span,part,rfl,hp,g1,g2,g3,g4,k⟩:=h
  refine ⟨_,Ad (Ak (Am G (hr.mono (by decide)) hg (Aa (pv 1) (Aa (pv 2) Ac))))
   (Ad (Eg (pv 0) (pv 1) rfl) (Ad (Eg (pv 0) (pv 2) rfl) (Ad (Eg (pv 0) Ab rfl) (Ad (Eg (pv 0) Ab rfl)
   (Ad (Eg (pv 0) Gk rfl) (Af (Eg (pv 0) Gk rfl))))))),?_⟩
  refine ⟨_,rfl,_,rfl,span,part,rfl,g1,g2,g3,g4,?_⟩
  refine ⟨_,rfl,_,rfl,p,C,dx,[],rfl,hp,T.cl,T.n1,(by show 0<1000; decide),?_⟩
  refine ⟨_,rfl,_,rfl,p,C,dx,_,rfl,Ag,T.cl,T.n2,(by show 1<1000; decide),?_⟩
  refine ⟨_,rfl,p,C,dx,_,rfl,Ag,T.cl,T.n3,(by show 2<1000; decide),?_⟩
  refine ⟨_,rfl,p,C,dx,_,rfl,Ag,T.cl,T.n4,(by show 3<1000; decide),?_⟩
  rw [Qw,Qw,Qw]
  intro dc hdc
  have npc:p≠dc:=Aj Ag hdc
  refine ⟨_,rfl,p,C,dx,_,rfl,(by rw [Ae npc]; exact Ag),T.cl,T.n5,(by show 4<1000; decide),?_⟩
  intro dl hdl
  have npl:p≠dl:=Aj Ag hdl
  have ncl:dc≠dl:=by
   refine Aj (o:=.dK []) ?_ hdl
   rw [Ae npc.symm,Ag]
  refine ⟨_,rfl,p,C,dx,_,rfl,(by rw [Ae npl]; exact Ag),T.cl,T.n6,(by show 5<1000; decide),?_⟩
  have hdc':H dc=none:=by rw [Ae npc.symm] at hdc; exact hdc
  have hdl':H dl=none:=by rw [Ae npl.symm,Ae ncl.symm,Ae npl.symm] at hdl; exact hdl
  refine k dc dl _ hdc' hdl' ncl Ag ?_ ?_ fun b o e hb=>?_
  ·rw [Ae npc.symm,Ae ncl,Ae npc.symm,Ag]
  ·rw [Ae npl.symm,Ag]
  ·rw [Ae hb,Ae (Aj e hdl'),Ae hb,Ae (Aj e hdc'),Ae hb]
   exact e
end
def Fz (C p dc dl:Addr):Kd Unit:=⟨C,p,dc,dl,fun _=>[],fun _ _=>True,fun b=>b=p∨b=dc∨b=dl⟩
def Bg (C:Addr):Objs Unit C where
 is:=fun κ=>∃ p dc dl,dc≠dl∧κ=Fz C p dc dl
 ok:=by
  rintro κ ⟨p,dc,dl,ne,rfl⟩
  exact ⟨.inl rfl,.inr (.inl rfl),.inr (.inr rfl),ne,fun _=>Nat.zero_le _,fun _ _ _=>rfl,fun _ _ _ _ _ _=>trivial⟩
 cls:=by
  rintro κ ⟨p,dc,dl,ne,rfl⟩
  rfl
section
variable {P:Program} {w:World} {K:PySem.W.Frag} {mg:Str->Option Value} {base:Heap} {C:Addr}
def Fy:Int->Str->Int->Unit->Unit:=fun _ _ _ t=>t
theorem jJ:Al ["self","name","last"] ["self","name","last"] (defScope bL):=⟨rfl,rfl,rfl,by decide +kernel,rfl,by decide +kernel,by decide +kernel⟩
theorem gN {f:Addr} (F:FunB K "fade" "Book.fade" bL f ["self","name","last"]):FnP P w K mg base 8 f ["self","name","last"] (Q4 (Bg C) Fy):=by
 refine FnP.mono (j:=1) ?_ (by decide)
 refine F.ok jJ (fun vs H Q E h=>?_) (fun cdv A outer s H vs Q E hr h=>?_)
 ·obtain ⟨κ,S,t,n,l,_,rfl,_⟩:=h
  rfl
 ·obtain ⟨κ,S,t,n,l,hκ,rfl,B,k⟩:=h
  exact ⟨_,Af fW,k H B Fr.refl⟩
end
end Lk

namespace Lk
open PySem L2
abbrev Ro:Stmt:=top 24
abbrev bG:Stmt:=top 25
abbrev Rm:Stmt:=top 26
abbrev bF:Stmt:=top 27
abbrev bJ:Stmt:=top 28
abbrev bM:Stmt:=top 29
abbrev sDo:Stmt:=top 30
section
variable {P:Program} {w:World} {K:PySem.W.Frag} {mg:Str->Option Value} {base:Heap}
def aP (K:PySem.W.Frag):Sp:=fun vs H Q _=>∃ (a:Addr) (ns:List Int) (k:Nat),vs=[.ref a,.int k]∧SqL K H a (ns.map V.int)∧∀ z:Int,Q (.int z) H
theorem jK:Al ["_law_script","_law_k"] ["_law_script","_law_k"] (defScope Ro):=⟨rfl,rfl,rfl,by decide +kernel,rfl,by decide +kernel,by decide +kernel⟩
theorem gR {f:Addr} (F:FunB K "_law_cell_at" "_law_cell_at" Ro f ["_law_script","_law_k"]) (B:Blt mg):FnP P w K mg base 1 f ["_law_script","_law_k"] (aP K):=by
 refine F.ok jK (fun vs H Q E h=>?_) (fun cdv A outer s H vs Q E hr h=>?_)
 ·obtain ⟨a,ns,k,rfl,_⟩:=h
  rfl
 ·obtain ⟨a,ns,k,rfl,hS,q⟩:=h
  refine ⟨_,Ad (Az (Ar K9 (pv 1) (Bi Dk rfl B.len PySem.boot_len (Aa (pv 0) Ac)) (Au _)) (Af (As (B7 Bq (pv 0) (pv 1) (fun _ _=>rfl)))) Av) (Af (As Ab)),?_⟩
  refine ⟨_,rfl,_,rfl,a,_,rfl,.inl hS,_,_,rfl,rfl,_,rfl,?_⟩
  refine ite2 (fun hlt=>?_) (fun _=>?_)
  ·have hlt:(k:Int)<((ns.map V.int).length:Nat):=of_decide_eq_true hlt
   rw [List.length_map] at hlt
   have hk:k<ns.length:=by omega
   refine ⟨_,rfl,_,rfl,a,_,k,.int ns[k],rfl,rfl,hS,D8 (by simp [hk]),q _⟩
  ·exact q 0
def aG:Sp:=fun vs H Q _=>∃ i:Int,vs=[.int i]∧∀ c:Nat,32≤c->c≤126->Q (.str ⟨#[c]⟩) H
theorem Vd:Al ["_law_number","_law_some"] ["_law_number"] (defScope bG):=⟨rfl,rfl,rfl,by decide +kernel,rfl,by decide +kernel,by decide +kernel⟩
theorem aT {z:Str} {i:Int} (hz:z.cps.toList.length=94) (ha:(z.cps.toList.all fun c=>decide (32≤c∧c≤126))=true) (h0:0≤i) (h1:i<94):∃ c,atI z.cps.toList i=some c∧32≤c∧c≤126:=by
 obtain ⟨k,rfl⟩:=Int.eq_ofNat_of_zero_le h0
 have hk:k<z.cps.toList.length:=by omega
 refine ⟨z.cps.toList[k],D8 (by simp [hk]),?_⟩
 have:=List.all_eq_true.mp ha _ (List.getElem_mem (l:=z.cps.toList) hk)
 exact of_decide_eq_true this
theorem X9 {z:Str} {i:Int} {G:Prop} (h:∀ c,atI z.cps.toList i=some c->32≤c->c≤126->G) (hz:z.cps.toList.length=94) (ha:(z.cps.toList.all fun c=>decide (32≤c∧c≤126))=true) (h0:0≤i) (h1:i<94):G:=by
 obtain ⟨c,hc,c1,c2⟩:=aT hz ha h0 h1
 exact h c hc c1 c2
theorem gH {f:Addr} (F:FunB K "_law_sign" "_law_sign" bG f ["_law_number"]):FnP P w K mg base 1 f ["_law_number"] aG:=by
 refine F.ok Vd (fun vs H Q E h=>?_) (fun cdv A outer s H vs Q E hr h=>?_)
 ·obtain ⟨i,rfl,_⟩:=h
  rfl
 ·obtain ⟨i,rfl,q⟩:=h
  refine ⟨_,Ad (A3 (i:=1) Vd.nd rfl (Or.inl rfl) A4) (Ad (A3 (i:=1) Vd.nd rfl (Or.inl rfl) (Ai C6 (pv 1) A4)) (Af (As (B7 kG (pv 1) (Ai Ba (pv 0) Ab) (fun _ _=>rfl))))),?_⟩
  refine ⟨_,rfl,_,_,rfl,rfl,by decide +kernel,?_⟩
  exact X9 (fun c hc c1 c2=>⟨_,rfl,_,rfl,_,_,rfl,rfl,(by show (0:Int)<94; decide),_,_,c,rfl,rfl,by decide +kernel,hc,q c c1 c2⟩) (by decide +kernel) (by decide +kernel) (by omega) (by omega)
def Hq (lo hi:Int):Sp:=fun vs H Q _=>∃ i:Int,vs=[.int i]∧∀ z:Int,lo≤z->z≤hi->Q (.int z) H
theorem jE:Al ["_law_cell"] ["_law_cell"] (defScope bF):=⟨rfl,rfl,rfl,by decide +kernel,rfl,by decide +kernel,by decide +kernel⟩
theorem gG {f:Addr} (F:FunB K "_law_span" "_law_span" bF f ["_law_cell"]):FnP P w K mg base 1 f ["_law_cell"] (Hq 1 (10 ^ 20)):=by
 refine F.ok jE (fun vs H Q E h=>?_) (fun cdv A outer s H vs Q E hr h=>?_)
 ·obtain ⟨i,rfl,_⟩:=h
  rfl
 ·obtain ⟨i,rfl,q⟩:=h
  refine ⟨_,Ad (Az (Ar Bo (Ai Ba (pv 0) Ab) Ab (Au _)) (Af (As (Ai Bj Ab (Ai Ba (Ai A9 (pv 0) Ab) (Ai Cc Ab Ab))))) Av)
   (Af (As (Ai Bj Ab (Ai Ba (Ai A9 (pv 0) Ab) Ab)))),?_⟩
  refine ⟨_,rfl,_,_,rfl,rfl,(by show (0:Int)<4; decide),rfl,_,rfl,?_⟩
  refine ite2 (fun _=>?_) (fun _=>?_)
  ·refine ⟨_,rfl,_,_,rfl,rfl,⟨by decide,by decide⟩,_,_,rfl,rfl,Ca _ (by decide) (by decide),_,_,rfl,rfl,(by show (0:Int)<10 ^ Int.toNat 20; decide),_,_,rfl,rfl,?_⟩
   rw [p20]
   exact q _ (by omega) (by omega)
  ·exact ⟨_,rfl,_,_,rfl,rfl,⟨by decide,by decide⟩,_,_,rfl,rfl,(by show (0:Int)<12; decide),_,_,rfl,rfl,q _ (by omega) (by omega)⟩
theorem jH:Al ["_law_cell"] ["_law_cell"] (defScope bJ):=⟨rfl,rfl,rfl,by decide +kernel,rfl,by decide +kernel,by decide +kernel⟩
theorem gL {f:Addr} (F:FunB K "_law_part" "_law_part" bJ f ["_law_cell"]):FnP P w K mg base 1 f ["_law_cell"] (Hq 2 (10 ^ 30)):=by
 refine F.ok jH (fun vs H Q E h=>?_) (fun cdv A outer s H vs Q E hr h=>?_)
 ·obtain ⟨i,rfl,_⟩:=h
  rfl
 ·obtain ⟨i,rfl,q⟩:=h
  refine ⟨_,Ad (Az (Ar Bo (Ai Ba (pv 0) Ab) Ab (Au _)) (Af (As (Ai Bj Ab (Ai Ba (Ai A9 (pv 0) Ab) (Ai Kp (Ai Cc Ab Ab) Ab))))) Av)
   (Af (As (Ai Bj Ab (Ai Ba (Ai A9 (pv 0) Ab) Ab)))),?_⟩
  refine ⟨_,rfl,_,_,rfl,rfl,(by show (0:Int)<5; decide),rfl,_,rfl,?_⟩
  refine ite2 (fun _=>?_) (fun _=>?_)
  ·refine ⟨_,rfl,_,_,rfl,rfl,⟨by decide,by decide⟩,_,_,rfl,rfl,Ca _ (by decide) (by decide),_,_,rfl,rfl,_,_,rfl,rfl,(by show (0:Int)<10 ^ Int.toNat 30 - 1; decide),_,_,rfl,rfl,?_⟩
   rw [p30]
   exact q _ (by omega) (by omega)
  ·exact ⟨_,rfl,_,_,rfl,rfl,⟨by decide,by decide⟩,_,_,rfl,rfl,(by show (0:Int)<3; decide),_,_,rfl,rfl,q _ (by omega) (by omega)⟩
end
end Lk

namespace Lk
open PySem L2
def Dm (x:Str):Prop:=∀ c∈x.cps.toList,32≤c∧c≤126
theorem Hr {a b:Str} (ha:Dm a) (hb:Dm b):Dm (a++b):=by
 intro c hc
 rw [PySem.Str.cps_append,Array.toList_append,List.mem_append] at hc
 rcases hc with hc | hc
 ·exact ha c hc
 ·exact hb c hc
theorem Kh {c:Nat} (h:32≤c) (h2:c≤126):Dm ⟨#[c]⟩:=by
 intro d hd
 have:d=c:=by simpa using hd
 omega
theorem Tw:Dm ("":Str):=by
 intro c hc
 rw [show ("":Str).cps.toList=[] by decide] at hc
 simp at hc
theorem Jo:∀ l:List Str,(∀ a∈l,Dm a)->Dm (PySem.Str.join ("":Str) l)
 | [],_=>by
   intro c hc
   have e:(PySem.Str.join ("":Str) []).cps.toList=[]:=rfl
   rw [e] at hc
   simp at hc
 | [x],h=>h x List.mem_cons_self
 | x::y::r,h=>by
   show Dm (x++("":Str)++PySem.Str.join ("":Str) (y::r))
   exact Hr (Hr (h x List.mem_cons_self) Tw) (Jo (y::r) fun a ha=>h a (List.mem_cons_of_mem _ ha))
theorem Nf {l:List Str} (h:∀ a∈l,Dm a):Dm (Txt.join ("":Str) l):=by
 show Dm (Builtin.Str.glued ("":Str) l)
 rw [StrLaws.glued_eq_join]
 exact Jo l h
theorem J0 {l:List Str} (h:∀ a∈l,a.length=1):(l.map (·.length)).sum=l.length:=by
 induction l with
 | nil=>rfl
 | cons a r ih=>
   rw [List.map_cons,List.sum_cons,h a List.mem_cons_self,ih fun b hb=>h b (List.mem_cons_of_mem _ hb),List.length_cons]
   omega
theorem Tv {x:Str} {j:Int} (h0:0≤j) (h2:j≤x.length):(Txt.slice x none (some j)).cps.toList=x.cps.toList.take j.toNat:=by
 have:=eq_of_beq (PyProof.Rows.slice_closes_toL h0 h2)
 rw [this]
 simp
theorem Vb {x:Str} {i:Int} (h0:0≤i) (h2:i≤x.length):(Txt.slice x (some i) none).cps.toList=x.cps.toList.drop i.toNat:=by
 rw [PyProof.Rows.slice_from_eq h0 h2 rfl]
 simp only [List.toList_toArray]
 rw [List.take_of_length_le]
 rw [List.length_drop,Array.length_toList]
 show x.length - i.toNat≤_
 omega
theorem Dc (x:Str):x.length=x.cps.toList.length:=by simp [Str.length]
theorem F6 {x:Str} {j:Int} (h0:0≤j) (h2:j≤x.length) (h:Dm x):Dm (Txt.slice x none (some j))∧(Txt.slice x none (some j)).length=j.toNat:=by
 have e:=Tv h0 h2
 refine ⟨fun c hc=>h c (List.mem_of_mem_take (by rw [← e]; exact hc)),?_⟩
 rw [Dc,e,List.length_take,← Dc]
 omega
theorem Kg {x:Str} {i:Int} (h0:0≤i) (h2:i≤x.length) (h:Dm x):Dm (Txt.slice x (some i) none)∧(Txt.slice x (some i) none).length=x.length - i.toNat:=by
 have e:=Vb h0 h2
 refine ⟨fun c hc=>h c (List.mem_of_mem_drop (by rw [← e]; exact hc)),?_⟩
 rw [Dc,e,List.length_drop,← Dc]
section
variable {P:Program} {w:World} {K:PySem.W.Frag} {mg:Str->Option Value} {base:Heap}
def Ts:Sp:=fun vs H Q _=>∃ (c:Int) (m:Nat),vs=[.int c,.int m]∧1≤m∧m≤30∧∀ l H' (ns:List Str),H l=none->Same H H'->H' l=some (.lst (ns.map V.str))->ns.length=m->(∀ n∈ns,A5 n)->Q (.ref l) H'
theorem Du:Al ["_law_cell","_law_many","_law_size","_law_base","_law_at","_law_step"] ["_law_cell","_law_many"] (defScope Rm):=⟨rfl,rfl,rfl,by decide +kernel,rfl,by decide +kernel,by decide +kernel⟩
theorem mulL {a b:Int} (h0:0≤a) (h1:a≤10 ^ 18):CMul a b:=.inl ⟨by omega,by omega⟩
theorem mulR {a b:Int} (h0:0≤b) (h1:b≤10 ^ 18):CMul a b:=.inr ⟨by omega,by omega⟩
set_option maxHeartbeats 4000000 in
theorem Yw {f g:Addr} (F:FunB K "_law_names" "_law_names" Rm f ["_law_cell","_law_many"]) (B:Blt mg) (G:FnP P w K mg base 1 g ["_law_number"] aG) (hg:mg "_law_sign"=some (.ref g)):FnP P w K mg base 3 f ["_law_cell","_law_many"] Ts:=by
 refine F.ok Du (fun vs H Q E h=>?_) (fun cdv A outer s H vs Q E hr h=>?_)
 ·obtain ⟨c,m,rfl,_⟩:=h
  rfl
 ·obtain ⟨c,m,rfl,m1,m2,k⟩:=h
  have hr1:Room 1 _:=hr.mono (by decide)
  refine ⟨_,(Ad (A3 (i:=0) Du.nd rfl (Or.inr rfl) (Ai Ba.letter (pv 0) Ab))
   (Ad (A3 (i:=2) Du.nd rfl (Or.inl rfl) (Ai Bj.letter0 Ab (Ai Ba (Ai A9 (pv 0) Ab) Ab)))
   (Ad (Az (Ar Bo (Ai Ba (Ai A9 (pv 0) Ab) Ab) Ab (Au _)) (Af (A3 (i:=2) Du.nd rfl (Or.inl rfl) (Ai Bj.letter0 Ab (Ai Ba (Ai A9 (pv 0) Ab) Ab)))) Av)
   (Ad (Az (Ar Bo (Ai Ba (pv 0) Ab) Ab (Au _)) (Ad (A3 (i:=3) Du.nd rfl (Or.inr rfl) (Pw PySem.F.plainAttrs_str PySem.F.slot_str_join PySem.F.type_str_join Xo A4 (Aa (Jw (N':=["_law_j","_law_cell"]) (cap:=[none,some 0]) rfl rfl (E1 rfl B.range (Aa Ab Ac)) (fun _ _ _ _ _=>(By (i:=0) (by decide +kernel:(["_law_j","_law_cell"]:List Str).Nodup) rfl (Or.inl rfl))) (fun _ _ _ _ _=>Fe)
     (fun _ _ _ _ _=>(Am G hr1 hg (Aa (Ai Bj (Ai Dq (pv 1) (Ai Bj (pv 0) Ab)) (Ai Dq (Ai Dq Ab (pv 0)) (pv 0))) Ac)))) Ac)))
   (Af (As (Jw (N':=["_law_k","_law_base"]) (cap:=[none,some 3]) rfl rfl (E1 rfl B.range (Aa (pv 1) Ac)) (fun _ _ _ _ _=>(By (i:=0) (by decide +kernel:(["_law_k","_law_base"]:List Str).Nodup) rfl (Or.inl rfl))) (fun _ _ _ _ _=>Fe)
     (fun _ _ _ _ _=>Dg F5 (pv 1) D6 (D5 (Ai Bj Ab (pv 0)))))))) Av)
   (Ad (A3 (i:=4) Du.nd rfl (Or.inr rfl) (Ai Ba.letter (Ai A9 (pv 0) Ab) (pv 2)))
   (Ad (A3 (i:=5) Du.nd rfl (Or.inr rfl) (Ai Bj.letter0 Ab (Ai Dq Ab (Ai Ba (Ai A9 (pv 0) Ab) Ab))))
   (Ad (A3 (i:=3) Du.nd rfl (Or.inr rfl) (Pw PySem.F.plainAttrs_str PySem.F.slot_str_join PySem.F.type_str_join Xo A4 (Aa (Jw (N':=["_law_j","_law_cell"]) (cap:=[none,some 0]) rfl rfl (E1 rfl B.range (Aa (pv 2) Ac)) (fun _ _ _ _ _=>(By (i:=0) (by decide +kernel:(["_law_j","_law_cell"]:List Str).Nodup) rfl (Or.inl rfl))) (fun _ _ _ _ _=>Fe)
     (fun _ _ _ _ _=>(Am G hr1 hg (Aa (Ai Bj (Ai Dq (pv 1) (Ai Bj (Ai A9 (pv 0) Ab) Ab)) (Ai Dq Ab (pv 0))) Ac)))) Ac)))
   (Af (As (Jw (N':=["_law_k","_law_base","_law_at","_law_cell","_law_step"]) (cap:=[none,some 3,some 4,some 0,some 5]) rfl rfl (E1 rfl B.range (Aa (pv 1) Ac)) (fun _ _ _ _ _=>(By (i:=0) (by decide +kernel:(["_law_k","_law_base","_law_at","_law_cell","_law_step"]:List Str).Nodup) rfl (Or.inl rfl))) (fun _ _ _ _ _=>Fe)
     (fun _ _ _ _ _=>(Ai C6 (Ai C6 (Dg F5 (pv 1) D6 (D5 (pv 2))) (Am G hr1 hg (Aa (Ai Bj (pv 3) (Ai Dq (pv 4) (pv 0))) Ac))) (Dg F5 (pv 1) (D5 (Ai Bj (pv 2) Ab)) D6))))))))))))),?_⟩
  refine ⟨_,rfl,_,_,rfl,rfl,(by show (0:Int)<1000003; decide),fun c' hc'=>?_⟩
  have c1:0≤c':=by omega
  have c2:c'<1000003:=by omega
  clear hc'
  refine ⟨_,rfl,_,_,rfl,rfl,⟨by decide,by decide⟩,_,_,rfl,rfl,(by show (0:Int)<6; decide),_,_,rfl,rfl,fun sz hsz=>?_⟩
  have hs:1≤sz∧sz≤40:=by omega
  clear hsz
  refine ⟨_,rfl,_,_,rfl,rfl,⟨by decide,by decide⟩,_,_,rfl,rfl,(by show (0:Int)<4; decide),rfl,_,rfl,?_⟩
  refine ite2 (fun h40=>⟨_,rfl,_,_,rfl,rfl,⟨by decide,by decide⟩,_,_,rfl,rfl,(by show (0:Int)<40; decide),_,_,rfl,rfl,fun sz hsz=>?_⟩) (fun h6=>?_)
  all_goals
   have hs:1≤sz∧sz≤40:=by omega
   obtain ⟨z1,z2⟩:=hs
   refine ⟨_,rfl,_,_,rfl,rfl,(by show (0:Int)<3; decide),rfl,_,rfl,?_⟩
   refine ite2 (fun _=>?_) (fun _=>?_)
   ·-- beginnings of one text
    refine ⟨rfl,40,rfl,by decide,by decide,?_⟩
    refine J4 40 (fun i ys σ' H'=>∃ zs:List Str,ys=zs.map V.str∧zs.length=i∧(∀ z∈zs,Dm z∧z.length=1)∧H'=H∧∃ v,σ'=[v,some (.int c')]) ⟨[],rfl,rfl,by simp,rfl,none,rfl⟩ (by decide) (fun i ys σ' H' hi _=>hi) (fun _ _ _ _=>Nat.le_refl _) ?_ ?_
    ·rintro i ys σ' H' x H2 hi hl ⟨zs,rfl,hz,hg1,rfl,v,rfl⟩ ⟨rfl,rfl⟩
     refine ⟨_,rfl,_,rfl,_,_,rfl,rfl,_,_,rfl,rfl,mulL c1 (by omega),_,rfl,_,_,rfl,rfl,mulL (by decide) (by decide),_,rfl,_,_,rfl,rfl,mulR (by omega) (by omega),_,_,rfl,rfl,_,rfl,fun ch h1 h2=>?_⟩
     refine J5 hi hl (by decide) ⟨zs++[⟨#[ch]⟩],by rw [List.map_append]; rfl,by rw [List.length_append,hz]; rfl,fun z hz2=>?_,rfl,_,rfl⟩
     rcases List.mem_append.mp hz2 with q | q
     ·exact hg1 z q
     ·rw [List.mem_singleton.mp q]; exact ⟨Kh h1 h2,rfl⟩
    ·rintro ys σ' H' ⟨zs,rfl,hz,hg1,rfl,v,rfl⟩ p hp
     refine ⟨_,p,zs,rfl,rfl,SqL.of Ag,?_,?_⟩
     ·rw [J0 fun a ha=>(hg1 a ha).2,hz]; decide
     have hb1:Dm (Txt.join ("":Str) zs):=Nf fun a ha=>(hg1 a ha).1
     have hb2:(Txt.join ("":Str) zs).length=40:=by rw [PySem.W.KT.join_ones _ fun a ha=>(hg1 a ha).2,hz]
     generalize Txt.join ("":Str) zs=bs at hb1 hb2 ⊢
     have Sm:=Same.upd (o:=.lst (zs.map V.str)) hp
     generalize upd H' p (.lst (zs.map V.str))=H1 at Sm ⊢
     refine ⟨_,rfl,m,rfl,by omega,by omega,?_⟩
     refine J4 m (fun i ys σ' H2=>∃ ns:List Str,ys=ns.map V.str∧ns.length=i∧(∀ n∈ns,A5 n)∧H2=H1∧∃ v,σ'=[v,some (.str bs)]) ⟨[],rfl,rfl,by simp,rfl,none,rfl⟩ (Nat.le_trans m2 (by decide)) (fun i ys σ' H' hi _=>hi) (fun _ _ _ _=>Nat.le_refl _) ?_ ?_
     ·rintro i ys σ' H3 x H4 hi hl ⟨ns,rfl,hn,hgn,rfl,v,rfl⟩ ⟨rfl,rfl⟩
      refine ⟨_,rfl,_,rfl,_,_,rfl,rfl,_,rfl,bs,rfl,by rw [hb2]; decide,?_⟩
      obtain ⟨s1,s2⟩:=F6 (x:=bs) (j:=1+(0+i)) (by omega) (by omega) hb1
      refine J5 hi hl (Nat.le_trans m2 (by decide)) ⟨ns++[Txt.slice bs none (some (1+(0+i)))],by rw [List.map_append]; rfl,by rw [List.length_append,hn]; rfl,fun z hz2=>?_,rfl,_,rfl⟩
      rcases List.mem_append.mp hz2 with q | q
      ·exact hgn z q
      ·rw [List.mem_singleton.mp q]; exact ⟨by omega,by omega,s1⟩
     ·rintro ys σ' H3 ⟨ns,rfl,hn,hgn,rfl,v,rfl⟩ q hq
      exact k q _ ns (Sm.free hq) (Sm.trans (Same.upd hq)) Ag hn hgn
   ·-- alike but at one place
    refine ⟨_,rfl,_,_,rfl,rfl,⟨by decide,by decide⟩,_,rfl,_,_,rfl,rfl,(by show (0:Int)<_; omega),fun at_ hat'=>?_⟩
    have hat:0≤at_∧at_<sz:=by rw [hat']; exact ⟨Int.emod_nonneg _ (by omega),Int.emod_lt_of_pos _ (by omega)⟩
    clear hat'
    refine ⟨_,rfl,_,_,rfl,rfl,⟨by decide,by decide⟩,_,_,rfl,rfl,(by show (0:Int)<2; decide),_,_,rfl,rfl,mulL (by decide) (by decide),_,_,rfl,rfl,fun st hst'=>?_⟩
    have hst:0≤st∧st≤32:=by omega
    clear hst'
    refine ⟨rfl,_,rfl,sz,rfl,by omega,by omega,?_⟩
    refine J4 sz.toNat (fun i ys σ' H'=>∃ zs:List Str,ys=zs.map V.str∧zs.length=i∧(∀ z∈zs,Dm z∧z.length=1)∧H'=H∧∃ v,σ'=[v,some (.int c')]) ⟨[],rfl,rfl,by simp,rfl,none,rfl⟩ (Nat.le_trans (show sz.toNat≤40 by omega) (by decide)) (fun i ys σ' H' hi _=>hi) (fun _ _ _ _=>Nat.le_refl _) ?_ ?_
    ·rintro i ys σ' H' x H2 hi hl ⟨zs,rfl,hz,hg1,rfl,v,rfl⟩ ⟨rfl,rfl⟩
     refine ⟨_,rfl,_,rfl,_,_,rfl,rfl,⟨by decide,by decide⟩,_,_,rfl,rfl,_,_,rfl,rfl,mulL c1 (by omega),_,rfl,_,_,rfl,rfl,mulL (by decide) (by decide),_,_,rfl,rfl,_,rfl,fun ch h1 h2=>?_⟩
     refine J5 hi hl (Nat.le_trans (show sz.toNat≤40 by omega) (by decide)) ⟨zs++[⟨#[ch]⟩],by rw [List.map_append]; rfl,by rw [List.length_append,hz]; rfl,fun z hz2=>?_,rfl,_,rfl⟩
     rcases List.mem_append.mp hz2 with q | q
     ·exact hg1 z q
     ·rw [List.mem_singleton.mp q]; exact ⟨Kh h1 h2,rfl⟩
    ·rintro ys σ' H' ⟨zs,rfl,hz,hg1,rfl,v,rfl⟩ p hp
     refine ⟨_,p,zs,rfl,rfl,SqL.of Ag,?_,?_⟩
     ·rw [J0 fun a ha=>(hg1 a ha).2,hz]
      show sz.toNat+zs.length * 0≤16777216
      omega
     have hb1:Dm (Txt.join ("":Str) zs):=Nf fun a ha=>(hg1 a ha).1
     have hb2:((Txt.join ("":Str) zs).length:Int)=sz:=by rw [PySem.W.KT.join_ones _ fun a ha=>(hg1 a ha).2,hz]; omega
     generalize Txt.join ("":Str) zs=bs at hb1 hb2 ⊢
     have Sm:=Same.upd (o:=.lst (zs.map V.str)) hp
     generalize upd H' p (.lst (zs.map V.str))=H1 at Sm ⊢
     have hbl:bs.length≤sizeLine:=Nat.le_trans (show bs.length≤40 by omega) (by decide)
     refine ⟨_,rfl,m,rfl,by omega,by omega,?_⟩
     refine J4 m (fun i ys σ' H2=>∃ ns:List Str,ys=ns.map V.str∧ns.length=i∧(∀ n∈ns,A5 n)∧H2=H1∧∃ v,σ'=[v,some (.str bs),some (.int at_),some (.int c'),some (.int st)]) ⟨[],rfl,rfl,by simp,rfl,none,rfl⟩ (Nat.le_trans m2 (by decide)) (fun i ys σ' H' hi _=>hi) (fun _ _ _ _=>Nat.le_refl _) ?_ ?_
     ·rintro i ys σ' H3 x H4 hi hl ⟨ns,rfl,hn,hgn,rfl,v,rfl⟩ ⟨rfl,rfl⟩
      obtain ⟨s1,s2⟩:=F6 (x:=bs) (j:=at_) (by omega) (by omega) hb1
      obtain ⟨u1,u2⟩:=Kg (x:=bs) (i:=at_+1) (by omega) (by omega) hb1
      refine ⟨_,rfl,_,rfl,_,rfl,bs,rfl,hbl,_,rfl,_,rfl,_,rfl,_,_,rfl,rfl,mulL (by omega) (by omega),_,_,rfl,rfl,_,rfl,fun ch h1 h2=>?_⟩
      refine ⟨_,_,rfl,rfl,Nat.le_trans (show (Txt.slice bs none (some at_)).length+1≤41 by omega) (by decide),_,rfl,_,rfl,_,_,rfl,rfl,_,rfl,bs,rfl,hbl,_,_,rfl,rfl,?_,?_⟩
      ·rw [PySem.Str.length_append,s2,u2]
       exact Nat.le_trans (show at_.toNat+1+(bs.length - (at_+1).toNat)≤41 by omega) (by decide)
      ·refine J5 hi hl (Nat.le_trans m2 (by decide)) ⟨ns++[Txt.slice bs none (some at_)++⟨#[ch]⟩++Txt.slice bs (some (at_+1)) none],by rw [List.map_append]; rfl,by rw [List.length_append,hn]; rfl,fun z hz2=>?_,rfl,_,rfl⟩
       rcases List.mem_append.mp hz2 with q | q
       ·exact hgn z q
       ·rw [List.mem_singleton.mp q]
        refine ⟨?_,?_,Hr (Hr s1 (Kh h1 h2)) u1⟩
        ·rw [PySem.Str.length_append,PySem.Str.length_append,s2,u2]
         show 1≤at_.toNat+1+_
         omega
        ·rw [PySem.Str.length_append,PySem.Str.length_append,s2,u2]
         show at_.toNat+1+(bs.length - (at_+1).toNat)≤40
         omega
     ·rintro ys σ' H3 ⟨ns,rfl,hn,hgn,rfl,v,rfl⟩ q hq
      exact k q _ ns (Sm.free hq) (Sm.trans (Same.upd hq)) Ag hn hgn
end
end Lk

namespace Lk
open PySem L2
inductive Dd where
 | ask (n:Str) (w:Int) | rest (k:Int) | drop (n:Str)
def Dd.v:Dd->List V
 | .ask n w=>[.str "ask",.str n,.int w]
 | .rest k=>[.str "rest",.str "",.int k]
 | .drop n=>[.str "drop",.str n,.int 0]
def Qt (ns:List Str):Dd->Prop
 | .ask n w=>n∈ns∧1≤w∧w≤10 ^ 30
 | .rest k=>0≤k∧k≤10 ^ 30
 | .drop n=>n∈ns
section
variable {P:Program} {w:World} {K:PySem.W.Frag} {mg:Str->Option Value} {base:Heap}
def aN (K:PySem.W.Frag):Sp:=fun vs H Q _=>∃ (c:Int) (k:Nat) (l:Addr) (ns:List Str) (sp lt:Int),vs=[.int c,.int k,.ref l,.int sp,.int lt]∧k≤1000∧SqL K H l (ns.map V.str)∧ns≠[]∧1≤sp∧sp≤10 ^ 20∧0≤lt∧lt<3 ∧
 ∀ q H' d,H q=none->Same H H'->H' q=some (.tup (Dd.v d))->Qt ns d->Q (.ref q) H'
theorem Vg:Al ["_law_cell","_law_k","_law_names_here","_law_span_here","_law_light","_law_mixed","_law_name"] ["_law_cell","_law_k","_law_names_here","_law_span_here","_law_light"] (defScope bM):=⟨rfl,rfl,rfl,by decide +kernel,rfl,by decide +kernel,by decide +kernel⟩
set_option maxHeartbeats 4000000 in
theorem gQ {f:Addr} (F:FunB K "_law_deed" "_law_deed" bM f ["_law_cell","_law_k","_law_names_here","_law_span_here","_law_light"]) (B:Blt mg):FnP P w K mg base 1 f ["_law_cell","_law_k","_law_names_here","_law_span_here","_law_light"] (aN K):=by
 refine F.ok Vg (fun vs H Q E h=>?_) (fun cdv A outer s H vs Q E hr h=>?_)
 ·obtain ⟨c,k,l,ns,sp,lt,rfl,_⟩:=h
  rfl
 ·obtain ⟨c,k,l,ns,sp,lt,rfl,hk,hS,hne,sp1,sp2,l0,l3,kk⟩:=h
  refine ⟨_,(Ad (A3 (i:=5) Vg.nd rfl (Or.inl rfl) (Ai Ba.letter (Ai Bj (Ai Bj (Ai Dq (pv 0) Ab) (Ai Dq (Ai Dq (pv 1) (pv 1)) Ab)) Ab) Ab))
   (Ad (A3 (i:=6) Vg.nd rfl (Or.inl rfl) (B7 Bq (pv 2) (Ai Ba.letter (Ai A9 (pv 5) Ab) (Bi Dk rfl B.len PySem.boot_len (Aa (pv 2) Ac))) (fun _ _=>rfl)))
   (Ad (Az (Ar Bo (Ai Ba (pv 5) Ab) Ab (Au _)) (Af (As (Gj (Aa A4 (Aa (pv 6) (Aa Ab Ac)))))) Av)
   (Ad (Az (PW.pt (N0 (Ar Bo (Ai Ba (pv 5) Ab) Ab (Au _)) (Ju (Ar Bo (Ai Ba (pv 0) Ab) Ab (Au _))))) (Af (As (Gj (Aa A4 (Aa A4 (Aa (Ai Ba.letter (Ai A9 (pv 0) Ab) (Ai Bj (Ai Cc Ab Ab) Ab)) Ac)))))) Av)
   (Ad (Az (Ar Bo (Ai Ba (pv 5) Ab) Ab (Au _)) (Af (As (Gj (Aa A4 (Aa A4 (Aa (Ai Ba.letter (Ai A9 (pv 0) Ab) (Ai Bj.letter0 (Ai Dq Ab (pv 3)) Ab)) Ac)))))) Av)
   (Af (As (Gj (Aa A4 (Aa (pv 6) (Aa (B7 Bq (C5 (Aa Ab (Aa (Ai Bj.letter0 Ab (Ai Ba (pv 0) Ab)) (Aa (Ai Bj.letter0 Ab (Ai Ba (pv 0) (Ai Cc Ab Ab))) Ac)))) (pv 4) (fun _ _=>rfl)) Ac))))))))))),?_⟩
  refine ⟨_,rfl,_,_,rfl,rfl,mulR (by decide) (by decide),_,rfl,_,rfl,_,_,rfl,rfl,mulL (by omega) (by omega),_,_,rfl,rfl,mulR (by decide) (by decide),_,_,rfl,rfl,_,_,rfl,rfl,_,_,rfl,rfl,(by show (0:Int)<2147483647; decide),fun mx hmx=>?_⟩
  have m0:0≤mx:=by omega
  clear hmx
  have hlen:0<ns.length:=List.length_pos_iff.mpr hne
  refine ⟨_,rfl,_,rfl,_,_,rfl,rfl,⟨by decide,by decide⟩,_,rfl,l,_,rfl,.inl hS,_,_,rfl,rfl,(by show (0:Int)<((ns.map V.str).length:Nat); rw [List.length_map]; omega),fun ix hix=>?_⟩
  have i0:0≤ix∧ix<ns.length:=by
   rw [hix,List.length_map]
   exact ⟨Int.emod_nonneg _ (by omega),Int.emod_lt_of_pos _ (by omega)⟩
  clear hix
  obtain ⟨j,rfl⟩:=Int.eq_ofNat_of_zero_le i0.1
  have hj:j<ns.length:=by omega
  have hnm:ns[j]∈ns:=List.getElem_mem _
  refine ⟨l,_,_,.str ns[j],rfl,rfl,hS,D8 (by simp [hj]),?_⟩
  generalize ns[j]=nm at hnm ⊢
  have small:∀ xs:List V,xs.length=3->xs.length≤sizeLine:=fun xs h=>by rw [h]; decide
  refine ⟨_,rfl,_,_,rfl,rfl,(by first | (show (0:Int)<8; decide) | (show (0:Int)<16; decide)),rfl,_,rfl,?_⟩
  refine ite2 (fun _=>?_) (fun _=>?_)
  ·refine ⟨_,rfl,small _ rfl,fun q hq=>?_⟩
   exact kk q _ (.drop nm) hq (Same.upd hq) Ag hnm
  refine ⟨_,rfl,_,_,rfl,rfl,(by first | (show (0:Int)<8; decide) | (show (0:Int)<16; decide)),rfl,_,rfl,?_⟩
  have rest1:∀ (z:Int) (q:Addr),0≤z->z≤10 ^ 30->H q=none->Q (.ref q) (upd H q (.tup [.str "rest",.str "",.int z])):=fun z q h0 h1 hq=>kk q _ (.rest z) hq (Same.upd hq) Ag ⟨h0,h1⟩
  refine ite2 (fun _=>⟨_,rfl,_,_,rfl,rfl,(by show (0:Int)<3; decide),rfl,_,rfl,ite2 (fun _=>?far) (fun _=>?_)⟩) (fun _=>iteF ?_)
  case far=>
   refine ⟨_,rfl,_,_,rfl,rfl,⟨by decide,by decide⟩,_,_,rfl,rfl,Ca _ (by decide) (by decide),_,_,rfl,rfl,_,_,rfl,rfl,(by show (0:Int)<10 ^ Int.toNat 30+1; decide),fun z hz=>⟨small _ rfl,fun q hq=>?_⟩⟩
   have hz':z=c / 3 % 1000000000000000000000000000001:=by rw [hz,p30]; rfl
   exact rest1 z q (by omega) (by omega) hq
  all_goals
   refine ⟨_,rfl,_,_,rfl,rfl,(by first | (show (0:Int)<8; decide) | (show (0:Int)<16; decide)),rfl,_,rfl,?_⟩
   refine ite2 (fun _=>?_) (fun _=>?_)
   ·refine ⟨_,rfl,_,_,rfl,rfl,⟨by decide,by decide⟩,_,rfl,_,_,rfl,rfl,mulL (by decide) (by decide),_,_,rfl,rfl,fun y hy=>⟨_,_,rfl,rfl,(by show (0:Int)<y; omega),fun z hz=>⟨small _ rfl,fun q hq=>?_⟩⟩⟩
    have h0:=Int.emod_nonneg (c / 3) (show y≠0 by omega)
    have h1:=Int.emod_lt_of_pos (c / 3) (show (0:Int)<y by omega)
    exact rest1 z q (by omega) (by omega) hq
   ·refine ⟨_,rfl,_,rfl,_,_,rfl,rfl,(by show (0:Int)<4; decide),_,_,rfl,rfl,fun w1 hw1=>⟨_,rfl,_,_,rfl,rfl,Ca _ (by decide) (by decide),_,_,rfl,rfl,(by show (0:Int)<10 ^ Int.toNat 30; decide),_,_,rfl,rfl,fun w2 hw2=>⟨small _ rfl,fun p hp=>?_⟩⟩⟩
    have hw2':w2=1+c % 1000000000000000000000000000000:=by rw [hw2,p30]
    have hv:∃ wt:Int,atI [V.int 1,.int w1,.int w2] lt=some (.int wt)∧1≤wt∧wt≤10 ^ 30:=by
     have:lt=0∨lt=1∨lt=2:=by omega
     rcases this with e | e | e
     ·subst e; exact ⟨1,rfl,by decide,by decide⟩
     ·subst e; exact ⟨w1,rfl,by omega,by omega⟩
     ·subst e; exact ⟨w2,rfl,by omega,by omega⟩
    obtain ⟨wt,hat,wt1,wt2⟩:=hv
    refine ⟨_,rfl,p,_,lt,_,rfl,rfl,SqL.of Ag,hat,small _ rfl,fun q hq=>?_⟩
    exact kk q _ (.ask nm wt) ((Same.upd hp).free hq) ((Same.upd hp).trans (Same.upd hq)) Ag ⟨hnm,wt1,wt2⟩
end
end Lk

namespace Lk
open PySem L2
section
variable {P:Program} {w:World} {K:PySem.W.Frag} {mg:Str->Option Value} {base:Heap}
def spDo (C:Addr) (spA spR spD:Sp):Sp:=fun vs H Q _=>∃ (p q dx:Addr) (d:Dd) (fs:List (Str×V)),vs=[.ref p,.ref q]∧H q=some (.tup (Dd.v d))∧H p=some (.ins C dx fs)∧fs.lookup ("ask":Str)=none∧fs.lookup ("rest":Str)=none∧fs.lookup ("drop":Str)=none ∧
 match d with
 | .ask n w=>spA [.ref p,.str n,.int w] H Q E0
 | .rest k=>spR [.ref p,.int k] H Q E0
 | .drop n=>spD [.ref p,.str n] H Q E0
theorem scDo:Al ["_law_thing","_law_deed_here"] ["_law_thing","_law_deed_here"] (defScope sDo):=⟨rfl,rfl,rfl,by decide +kernel,rfl,by decide +kernel,by decide +kernel⟩
end
end Lk

namespace Lk
open PySem L2
theorem C7 (x:Str×Int×Int) (r:List (Str×Int×Int)) (n:Str):A1 (x::r) n=if x.1=n then some x else A1 r n:=by
 unfold A1
 rw [List.find?_cons]
 by_cases h:x.1=n
 ·rw [decide_eq_true h,if_pos h]
 ·rw [decide_eq_false h,if_neg h]
theorem Z3 (x:Str×Int×Int) (r:List (Str×Int×Int)) (p t:Int):ageE (x::r) p t=if 0<Ce x.2.1 p t then oldE p t x::ageE r p t else ageE r p t:=by
 unfold ageE
 rw [List.filter_cons]
 by_cases h:0<Ce x.2.1 p t
 ·rw [if_pos h,if_pos (show Ij p t x=true from decide_eq_true h)]; rfl
 ·rw [if_neg h,if_neg (show ¬ Ij p t x=true by unfold Ij; simp only [decide_eq_true_eq]; exact h)]
theorem Qf {p t:Int} {n:Str}:∀ {es:List (Str×Int×Int)},(An es).Nodup->A1 (ageE es p t) n=match A1 es n with
  | some e=>if 0<Ce e.2.1 p t then some (oldE p t e) else none
  | none=>none
 | [],_=>rfl
 | x::r,h=>by
   have hn:x.1∉An r:=(List.nodup_cons.mp h).1
   have ih:=Qf (p:=p) (t:=t) (n:=n) (List.nodup_cons.mp h).2
   rw [Z3,C7 x r]
   by_cases e:x.1=n
   ·rw [if_pos e]
    have hr:A1 (ageE r p t) n=none:=Oy (fun z=>hn (by rw [e]; exact Jg z))
    by_cases h2:0<Ce x.2.1 p t
    ·rw [if_pos h2,C7,if_pos (show (oldE p t x).1=n from e)]; show _=(if _ then _ else _); rw [if_pos h2]
    ·rw [if_neg h2,hr]; show _=(if _ then _ else _); rw [if_neg h2]
   ·rw [if_neg e,← ih]
    by_cases h2:0<Ce x.2.1 p t
    ·rw [if_pos h2,C7,if_neg (show ¬ (oldE p t x).1=n from e)]
    ·rw [if_neg h2]
theorem So (a b:List (Str×Int×Int)) (n:Str):A1 (a++b) n=match A1 a n with | some e=>some e | none=>A1 b n:=by
 unfold A1
 rw [List.find?_append]
 cases a.find? fun e=>decide (e.1=n) <;> rfl
theorem Oz {n m:Str} {w d:Int}:∀ {es:List (Str×Int×Int)},A1 (es.map fun e=>if e.1=n then (e.1,e.2.1+w,d) else e) m=(A1 es m).map fun e=>if e.1=n then (e.1,e.2.1+w,d) else e
 | []=>rfl
 | x::r=>by
   rw [List.map_cons,C7,C7,Oz (es:=r)]
   have:(if x.1=n then (x.1,x.2.1+w,d) else x).1=x.1:=by
    by_cases h:x.1=n
    ·rw [if_pos h]
    ·rw [if_neg h]
   rw [this]
   by_cases h:x.1=m
   ·rw [if_pos h,if_pos h]; rfl
   ·rw [if_neg h,if_neg h]
theorem O0 {es:List (Str×Int×Int)} {n m:Str} {w d:Int}:A1 (Cy es n w d) m=if m=n then some (n,((A1 es n).map (·.2.1)).getD 0+w,d) else A1 es m:=by
 cases e:A1 es n with
 | none=>
   rw [Fp e,So]
   by_cases h:m=n
   ·subst h
    rw [if_pos rfl,e]
    show A1 [(m,w,d)] m=_
    rw [C7,if_pos rfl]
    simp
   ·rw [if_neg h]
    cases q:A1 es m with
    | some x=>rfl
    | none=>
      show A1 [(n,w,d)] m=none
      rw [C7,if_neg (fun z=>h z.symm)]
      rfl
 | some x=>
   have hx:=(Be e).1
   unfold Cy
   rw [e]
   show A1 (es.map fun e=>if e.1=n then (e.1,e.2.1+w,d) else e) m=_
   rw [Oz]
   by_cases h:m=n
   ·subst h
    rw [if_pos rfl,e]
    show some (if x.1=m then _ else _)=_
    rw [if_pos hx,hx]
    rfl
   ·rw [if_neg h]
    cases q:A1 es m with
    | none=>rfl
    | some y=>
      show some (if y.1=n then _ else _)=_
      rw [if_neg (fun z=>h (by rw [← (Be q).1]; exact z))]
structure Core (S:BS) (k:Nat):Prop where
 nd:(An S.ents).Nodup
 pos:∀ e∈S.ents,0<e.2.1∧e.2.1≤k * 10 ^ 30∧1≤e.2.2∧e.2.2≤k
 inj:∀ a∈S.ents,∀ b∈S.ents,a.2.2=b.2.2->a.1=b.1
 few:S.ents.length≤k
theorem O5 {es:List (Str×Int×Int)} {p t:Int} {e:Str×Int×Int} (h:e∈ageE es p t):∃ x∈es,e=oldE p t x∧0<Ce x.2.1 p t:=by
 obtain ⟨x,hx,rfl⟩:=List.mem_map.mp h
 obtain ⟨h1,h2⟩:=List.mem_filter.mp hx
 exact ⟨x,h1,rfl,of_decide_eq_true h2⟩
theorem Core.age {S:BS} {k:Nat} (h:Core S k) {p t:Int}:Core {S with ents:=ageE S.ents p t} k where
 nd:=by
  have:(An (ageE S.ents p t)).Sublist (An S.ents):=by
   unfold An ageE
   rw [List.map_map]
   exact List.filter_sublist.map (fun e:Str×Int×Int=>e.1)
  exact this.nodup h.nd
 pos:=fun e he=>by
  obtain ⟨x,hx,rfl,hp⟩:=O5 he
  obtain ⟨h1,h2,h3,h4⟩:=h.pos x hx
  have:=eX (p:=p) (t:=t) (Int.le_of_lt h1)
  refine ⟨hp,?_,h3,h4⟩
  show Ce x.2.1 p t≤_
  omega
 inj:=fun a ha b hb e=>by
  obtain ⟨x,hx,rfl,_⟩:=O5 ha
  obtain ⟨y,hy,rfl,_⟩:=O5 hb
  exact h.inj x hx y hy e
 few:=by
  refine Nat.le_trans ?_ h.few
  show (ageE S.ents p t).length≤_
  unfold ageE
  rw [List.length_map]
  exact List.length_filter_le _ _
theorem Core.pass {S:BS} {k:Nat} (h:Core S k) {st:Int}:Core (Bb S st) k:=by
 by_cases ht:0<Bl S st
 ·have:=h.age (p:=S.part) (t:=Bl S st)
  refine ⟨?_,?_,?_,?_⟩
  all_goals
   unfold Bb
   dsimp only
   rw [if_pos ht]
  ·exact this.nd
  ·exact this.pos
  ·exact this.inj
  ·exact this.few
 ·refine ⟨?_,?_,?_,?_⟩
  all_goals
   unfold Bb
   dsimp only
   rw [if_neg ht]
  ·exact h.nd
  ·exact h.pos
  ·exact h.inj
  ·exact h.few
theorem Core.up {S:BS} {k:Nat} (h:Core S k):Core S (k+1) where
 nd:=h.nd
 pos:=fun e he=>by
  obtain ⟨h1,h2,h3,h4⟩:=h.pos e he
  refine ⟨h1,by push_cast; omega,h3,by push_cast; omega⟩
 inj:=h.inj
 few:=Nat.le_succ_of_le h.few
theorem Core.of {S S':BS} {k:Nat} (h:Core S k) (e:S'.ents=S.ents):Core S' k:=⟨by rw [e]; exact h.nd,by rw [e]; exact h.pos,by rw [e]; exact h.inj,by rw [e]; exact h.few⟩
theorem Ie {es:List (Str×Int×Int)} {n:Str} {w d:Int} {e:Str×Int×Int} (h:e∈Cy es n w d):(e∈es∧e.1≠n)∨(e.1=n∧e.2.2=d∧(e.2.1=w∨∃ x∈es,e.2.1=x.2.1+w)):=by
 cases q:A1 es n with
 | none=>
   rw [Fp q] at h
   rcases List.mem_append.mp h with z | z
   ·exact .inl ⟨z,fun he=>Fq q (List.mem_map.mpr ⟨e,z,he⟩)⟩
   ·rw [List.mem_singleton.mp z]
    exact .inr ⟨rfl,rfl,.inl rfl⟩
 | some x=>
   unfold Cy at h
   rw [q] at h
   obtain ⟨y,hy,rfl⟩:=List.mem_map.mp h
   by_cases e:y.1=n
   ·rw [if_pos e]
    exact .inr ⟨e,rfl,.inr ⟨y,hy,rfl⟩⟩
   ·rw [if_neg e]
    exact .inl ⟨hy,e⟩
theorem Lh {es:List (Str×Int×Int)} {n:Str} {w d:Int}:An (Cy es n w d)=if n∈An es then An es else An es++[n]:=by
 cases q:A1 es n with
 | none=>
   rw [Fp q,if_neg (Fq q)]
   unfold An
   rw [List.map_append]
   rfl
 | some x=>
   have hm:n∈An es:=List.mem_map.mpr ⟨x,De q,(Be q).1⟩
   rw [if_pos hm]
   unfold Cy
   rw [q]
   show An (es.map _)=_
   unfold An
   rw [List.map_map]
   refine List.map_congr_left fun y hy=>?_
   show (if y.1=n then _ else _:Str×Int×Int).1=y.1
   by_cases e:y.1=n
   ·rw [if_pos e]
   ·rw [if_neg e]
theorem Core.grow {S:BS} {k:Nat} (h:Core S k) {n:Str} {w:Int} (w1:1≤w) (w2:w≤10 ^ 30):Core {S with ents:=Cy S.ents n w ((k+1:Nat):Int)} (k+1) where
 nd:=by
  show (An (Cy S.ents n w _)).Nodup
  rw [Lh]
  by_cases hm:n∈An S.ents
  ·rw [if_pos hm]; exact h.nd
  ·rw [if_neg hm,List.nodup_append]
   exact ⟨h.nd,by simp,fun a ha b hb z=>hm (by rw [List.mem_singleton.mp hb] at z; rw [← z]; exact ha)⟩
 pos:=fun e he=>by
  rcases Ie he with ⟨z,_⟩ | ⟨_,e2,e3⟩
  ·obtain ⟨h1,h2,h3,h4⟩:=h.pos e z
   exact ⟨h1,by push_cast; omega,h3,by push_cast; omega⟩
  ·rw [e2]
   rcases e3 with e3 | ⟨x,hx,e3⟩
   ·rw [e3]
    exact ⟨by omega,by push_cast; omega,by push_cast; omega,Int.le_refl _⟩
   ·obtain ⟨h1,h2,h3,h4⟩:=h.pos x hx
    rw [e3]
    exact ⟨by omega,by push_cast; omega,by push_cast; omega,Int.le_refl _⟩
 inj:=fun a ha b hb e=>by
  rcases Ie ha with ⟨za,_⟩ | ⟨a1,a2,_⟩
  ·rcases Ie hb with ⟨zb,_⟩ | ⟨b1,b2,_⟩
   ·exact h.inj a za b zb e
   ·have:=(h.pos a za).2.2.2
    rw [e,b2] at this
    push_cast at this
    omega
  ·rcases Ie hb with ⟨zb,_⟩ | ⟨b1,b2,_⟩
   ·have:=(h.pos b zb).2.2.2
    rw [← e,a2] at this
    push_cast at this
    omega
   ·rw [a1,b1]
 few:=by
  show (Cy S.ents n w _).length≤_
  have:=h.few
  unfold Cy
  cases A1 S.ents n with
  | none=>show (S.ents++_).length≤_; rw [List.length_append]; show _+1≤_; omega
  | some x=>show (S.ents.map _).length≤_; rw [List.length_map]; omega
def El (S:BS):Dd->BS
 | .ask n w=>askS S n w
 | .rest k=>Bb (A0 S) k
 | .drop _=>A0 S
end Lk

namespace Lk
open PySem L2
abbrev Fb:Stmt:=top 22
abbrev Rf:Stmt:=inClass Fb 0
abbrev Jp:Stmt:=inClass Fb 1
abbrev Rg:Stmt:=inClass Fb 2
abbrev Re:Stmt:=inClass Fb 3
abbrev bI:Stmt:=inClass Fb 4
abbrev Np:Stmt:=inClass Fb 5
abbrev Rb:Stmt:=inClass Fb 6
abbrev No:Stmt:=inClass Fb 7
abbrev Vi:Stmt:=inClass Fb 8
abbrev Ht:Stmt:=top 11
structure Ej where
 deed:Int
 name:Str
 why:Str
 count:Int
 last:Int
def Ej.v (g:Ej):List V:=[.int g.deed,.str g.name,.str g.why,.int g.count,.int g.last]
structure ShS where
 places:Int
 stand:List Str
 gone:List Ej
def tabS (ns:List Str):List (Key×V):=ns.map fun n=>(Sum.inr n,.bl true)
def offS (t:ShS) (d:Int) (n r:Str) (c l:Int):ShS:={t with stand:=t.stand.filter fun m=>decide (m≠n),gone:=t.gone++[⟨d,n,r,c,l⟩]}
def inS (t:ShS) (n:Str):ShS:={t with stand:=t.stand++[n]}
def Bu:Int->Str->Int->ShS->ShS:=fun d n l t=>if n∈t.stand then offS t d n "faded" 0 l else t
structure Ka (ds gl:Addr) (t:ShS) (H:Hp):Prop where
 st:H ds=some (.dK (tabS t.stand))
 gn:∃ ts:List Addr,H gl=some (.lst (ts.map V.ref))∧ts.length=t.gone.length∧∀ (j:Nat) (a:Addr) (g:Ej),ts[j]?=some a->t.gone[j]?=some g->H a=some (.tup g.v)
 nd:t.stand.Nodup
 few:t.gone.length+t.stand.length≤1000
def Ki (C p dc dl ds gl:Addr):Kd ShS:=⟨C,p,dc,dl,fun t=>[("places",.int t.places),("standing",.ref ds),("gone",.ref gl)],Ka ds gl,fun b=>b=p∨b=dc∨b=dl∨b=ds∨b=gl⟩
theorem Ka.fr {p dc dl ds gl:Addr} {t:ShS} {H H':Hp} (h:Ka ds gl t H) (n1:ds≠p∧ds≠dc∧ds≠dl) (n2:gl≠p∧gl≠dc∧gl≠dl)
  (k:∀ b o,H b=some o->(b=p∨b=dc∨b=dl∨b=ds∨b=gl)->b≠p->b≠dc->b≠dl->H' b=some o) (kt:∀ b xs,H b=some (.tup xs)->H' b=some (.tup xs)):Ka ds gl t H':=by
 obtain ⟨h1,⟨ts,h2,h3,h4⟩,h5,h6⟩:=h
 exact ⟨k _ _ h1 (.inr (.inr (.inr (.inl rfl)))) n1.1 n1.2.1 n1.2.2,⟨ts,k _ _ h2 (.inr (.inr (.inr (.inr rfl)))) n2.1 n2.2.1 n2.2.2,h3,fun j a g e1 e2=>kt _ _ (h4 j a g e1 e2)⟩,h5,h6⟩
structure ShIs (C:Addr) (κ:Kd ShS) (p dc dl ds gl:Addr):Prop where
 eq:κ=Ki C p dc dl ds gl
 n0:dc≠dl
 n1:ds≠p∧ds≠dc∧ds≠dl
 n2:gl≠p∧gl≠dc∧gl≠dl
 n3:ds≠gl
def Aq (C:Addr):Objs ShS C where
 is:=fun κ=>∃ p dc dl ds gl,ShIs C κ p dc dl ds gl
 ok:=by
  rintro κ ⟨p,dc,dl,ds,gl,rfl,n0,n1,n2,n3⟩
  refine ⟨.inl rfl,.inr (.inl rfl),.inr (.inr (.inl rfl)),n0,fun _=>by show 3≤100; decide,fun t m hm=>?_,fun t H H' h k kt=>Ka.fr h n1 n2 k kt⟩
  show List.lookup m [(("places":Str),V.int t.places),("standing",V.ref ds),("gone",V.ref gl)]=none
  have h1:(m==("places":Str))=false:=beq_eq_false_iff_ne.mpr fun z=>hm (by rw [z]; simp [Fv])
  have h2:(m==("standing":Str))=false:=beq_eq_false_iff_ne.mpr fun z=>hm (by rw [z]; simp [Fv])
  have h3:(m==("gone":Str))=false:=beq_eq_false_iff_ne.mpr fun z=>hm (by rw [z]; simp [Fv])
  rw [List.lookup_cons,h1,List.lookup_cons,h2,List.lookup_cons,h3,List.lookup_nil]
 cls:=by
  rintro κ ⟨p,dc,dl,ds,gl,rfl,_⟩
  rfl
structure STxt (K:PySem.W.Frag) (C:Addr):Prop extends BTxt K C where
 s1:Ct K C "places"
 s2:Ct K C "standing"
 s3:Ct K C "gone"
section
variable {S:BS} {dc dl ds gl:Addr} {x y z:V}
theorem dX:(Bm S dc dl [("places",x),("standing",y),("gone",z)]).lookup ("places":Str)=some x:=rfl
theorem Cj:(Bm S dc dl [("places",x),("standing",y),("gone",z)]).lookup ("standing":Str)=some y:=rfl
theorem dY:(Bm S dc dl [("places",x),("standing",y),("gone",z)]).lookup ("gone":Str)=some z:=rfl
end
theorem Ea {n:Str}:∀ {st:List Str},valV (tabS st) (Sum.inr n:Key)=if n∈st then some (.bl true) else none
 | []=>rfl
 | m::r=>by
   by_cases h:m=n
   ·rw [if_pos (by rw [h]; exact List.mem_cons_self)]
    exact Ev (p:=((Sum.inr m,.bl true):Key×V)) (congrArg Sum.inr h)
   ·have e:valV (tabS (m::r)) (Sum.inr n:Key)=valV (tabS r) (Sum.inr n:Key):=Ew (p:=((Sum.inr m,.bl true):Key×V)) (fun z=>h (Sum.inr.inj z))
    rw [e,Ea]
    by_cases h2:n∈r
    ·rw [if_pos h2,if_pos (List.mem_cons_of_mem _ h2)]
    ·rw [if_neg h2,if_neg (fun z=>by rcases List.mem_cons.mp z with z | z; exact h z.symm; exact h2 z)]
theorem Wi {n:Str} {st:List Str}:Dy (tabS st) (Sum.inr n:Key)=tabS (st.filter fun m=>decide (m≠n)):=by
 unfold Dy tabS
 rw [List.filter_map]
 refine congrArg (List.map _) (List.filter_congr fun m _=>?_)
 rw [Bool.eq_iff_iff]
 simp
theorem Pu {n:Str} {st:List Str} (h:n∉st):putK (tabS st) (Sum.inr n:Key) (.bl true)=tabS (st++[n]):=by
 have:valV (tabS st) (Sum.inr n:Key)=none:=by rw [Ea,if_neg h]
 rw [N1 _ this]
 unfold tabS
 rw [List.map_append]
 rfl
theorem Ft {n:Str}:∀ {st:List Str},st.Nodup->n∈st->(st.filter fun m=>decide (m≠n)).length+1=st.length
 | [],_,h=>by simp at h
 | m::r,nd,h=>by
   obtain ⟨h1,h2⟩:=List.nodup_cons.mp nd
   by_cases e:m=n
   ·subst e
    have:(r.filter fun k=>decide (k≠m))=r:=List.filter_eq_self.mpr fun a ha=>decide_eq_true fun z=>h1 (by rw [← z]; exact ha)
    rw [List.filter_cons,if_neg (by simp),this]
    rfl
   ·have hr:n∈r:=by
     rcases List.mem_cons.mp h with z | z
     ·exact absurd z.symm e
     ·exact z
    rw [List.filter_cons,if_pos (decide_eq_true e),List.length_cons,List.length_cons,Ft h2 hr]
end Lk

namespace Lk
open PySem L2
section
variable {P:Program} {w:World} {K:PySem.W.Frag} {mg:Str->Option Value} {base:Heap} {C:Addr}
theorem Ah.setStand {κ:Kd ShS} {S:BS} {t t':ShS} {H:Hp} {p dc dl ds gl:Addr} (B:Ah κ S t H) (h:ShIs C κ p dc dl ds gl) (e:t'.places=t.places) (eg:t'.gone=t.gone) (nd:t'.stand.Nodup) (few:t'.gone.length+t'.stand.length≤1000):Ah κ S t' (upd H ds (.dK (tabS t'.stand))):=by
 obtain ⟨rfl,n0,n1,n2,n3⟩:=h
 obtain ⟨⟨dx,h1⟩,h2,h3,h4,h5⟩:=B
 obtain ⟨g1,⟨ts,g2,g3,g4⟩,g5,g6⟩:=h4
 refine ⟨⟨dx,?_⟩,?_,?_,⟨Ag,⟨ts,?_,by rw [eg]; exact g3,fun j a g e1 e2=>?_⟩,nd,few⟩,Ei h5 (by intro xs z; cases z)⟩
 ·show upd H ds _ p=some (.ins C dx (Bm S dc dl [("places",.int t'.places),("standing",.ref ds),("gone",.ref gl)]))
  rw [Ae (Ne.symm n1.1),e]; exact h1
 ·show upd H ds _ dc=_; rw [Ae (Ne.symm n1.2.1)]; exact h2
 ·show upd H ds _ dl=_; rw [Ae (Ne.symm n1.2.2)]; exact h3
 ·rw [Ae (Ne.symm n3)]; exact g2
 ·rw [eg] at e2
  have:=g4 j a g e1 e2
  rw [Ae (Il this g1 (by intro z; cases z))]; exact this
theorem Ah.addGone {κ:Kd ShS} {S:BS} {t:ShS} {H:Hp} {p dc dl ds gl a:Addr} {g:Ej} {xs:List V} (B:Ah κ S t H) (h:ShIs C κ p dc dl ds gl) (hg:H gl=some (.lst xs)) (ha:H a=some (.tup g.v)) (few:t.gone.length+1+t.stand.length≤1000) :
  Ah κ S {t with gone:=t.gone++[g]} (upd H gl (.lst (xs++[.ref a]))):=by
 obtain ⟨rfl,n0,n1,n2,n3⟩:=h
 obtain ⟨⟨dx,h1⟩,h2,h3,h4,h5⟩:=B
 obtain ⟨g1,⟨ts,g2,g3,g4⟩,g5,g6⟩:=h4
 have:xs=ts.map V.ref:=by rw [g2] at hg; cases hg; rfl
 subst this
 have keep:∀ {b:Addr} {zs:List V},H b=some (.tup zs)->(upd H gl (.lst (ts.map V.ref++[.ref a]))) b=some (.tup zs):=fun {b zs} e=>by rw [Ae (Il e g2 (by intro z; cases z))]; exact e
 refine ⟨⟨dx,?_⟩,?_,?_,⟨?_,⟨ts++[a],by rw [Ag,List.map_append]; rfl,by rw [List.length_append,List.length_append,g3]; rfl,fun j b u e1 e2=>?_⟩,g5,by show (t.gone++[g]).length+_≤_; rw [List.length_append]; exact few⟩,Ei h5 (by intro xs z; cases z)⟩
 ·show upd H gl _ p=_; rw [Ae (Ne.symm n2.1)]; exact h1
 ·show upd H gl _ dc=_; rw [Ae (Ne.symm n2.2.1)]; exact h2
 ·show upd H gl _ dl=_; rw [Ae (Ne.symm n2.2.2)]; exact h3
 ·show upd H gl _ ds=_; rw [Ae n3]; exact g1
 ·have e2:(t.gone++[g])[j]?=some u:=e2
  by_cases hj:j<ts.length
  ·rw [List.getElem?_append_left hj] at e1
   rw [List.getElem?_append_left (by omega)] at e2
   exact keep (g4 j b u e1 e2)
  ·have hl:j<(ts++[a]).length:=(List.getElem?_eq_some_iff.mp e1).1
   rw [List.length_append] at hl
   have hl:j<ts.length+1:=hl
   have ej:j=ts.length:=by omega
   subst ej
   rw [List.getElem?_append_right (Nat.le_refl _),Nat.sub_self] at e1
   rw [g3,List.getElem?_append_right (Nat.le_refl _),Nat.sub_self] at e2
   cases e1
   cases e2
   exact keep ha
def Hl:Sp:=fun vs H Q _=>∃ (κ:Kd ShS) (S:BS) (t:ShS) (n r:Str) (c l:Int),(Aq C).is κ∧vs=[.ref κ.p,.str n,.str r,.int c,.int l]∧Ah κ S t H∧n∈t.stand∧∀ H',Ah κ S (offS t S.deeds n r c l) H'->Fr κ H H'->Q .non H'
theorem Yc:Al ["self","name","reason","count","last"] ["self","name","reason","count","last"] (defScope No):=⟨rfl,rfl,rfl,by decide +kernel,rfl,by decide +kernel,by decide +kernel⟩
theorem Vt {f:Addr} (F:FunB K "take_off" "Shelf.take_off" No f ["self","name","reason","count","last"]) (T:STxt K C):FnP P w K mg base 1 f ["self","name","reason","count","last"] (Hl (C:=C)):=by
 refine F.ok Yc (fun vs H Q E h=>?_) (fun cdv A outer s H vs Q E hr h=>?_)
 ·obtain ⟨κ,S,t,n,r,c,l,_,rfl,_⟩:=h
  rfl
 ·obtain ⟨κ,S,t,n,r,c,l,⟨p,dc,dl,ds,gl,hi⟩,rfl,B,hn,k⟩:=h
  have O:=(Aq C).ok κ ⟨p,dc,dl,ds,gl,hi⟩
  obtain ⟨rfl,n0,n1,n2,n3⟩:=id hi
  obtain ⟨dx,h1⟩:=id B.ob
  obtain ⟨g1,⟨ts,g2,g3,g4⟩,g5,g6⟩:=id B.ex
  have hu:=Dj hr
  refine ⟨_,Ad (Ak (N5 (Ax (pv 0) rfl) (pv 1) ⟨rfl,rfl,rfl,rfl⟩))
   (Af (Ak (Pw PySem.F.plainAttrs_list PySem.F.slot_list_append PySem.F.type_list_append Ks (Ax (pv 0) rfl) (Aa (Gj (Aa (Ax (pv 0) rfl) (Aa (pv 1) (Aa (pv 2) (Aa (pv 3) (Aa (pv 4) Ac)))))) Ac)))),?_⟩
  have vn:valV (tabS t.stand) (Sum.inr n:Key)=some (.bl true):=by rw [Ea,if_pos hn]
  refine ⟨_,rfl,p,C,dx,_,_,rfl,h1,T.cl,T.s2,Cj,ds,rfl,.inl ⟨_,.inl g1⟩,_,rfl,_,Sum.inr n,_,g1,rfl,vn,?_⟩
  have hl:=Ft g5 hn
  let t1:ShS:={t with stand:=t.stand.filter fun m=>decide (m≠n)}
  have B1:Ah (Ki C p dc dl ds gl) S t1 (upd H ds (.dK (Dy (tabS t.stand) (Sum.inr n:Key)))):=by
   rw [Wi]
   exact B.setStand (t':=t1) hi rfl rfl (List.filter_sublist.nodup g5) (by show t.gone.length+(t.stand.filter fun m=>decide (m≠n)).length≤1000; omega)
  have F1:Fr (Ki C p dc dl ds gl) H (upd H ds (.dK (Dy (tabS t.stand) (Sum.inr n:Key)))):=Fr.upd O (.inr (.inr (.inr (.inl rfl))))
  generalize upd H ds (.dK (Dy (tabS t.stand) (Sum.inr n:Key)))=H1 at B1 F1 ⊢
  obtain ⟨dx1,k1⟩:=id B1.ob
  obtain ⟨_,⟨ts1,k2,k3,k4⟩,_,k6⟩:=id B1.ex
  refine ⟨_,rfl,p,C,dx1,_,_,rfl,k1,T.cl,T.s3,dY,.inl ⟨rfl,_,SqL.of k2⟩,_,rfl,p,C,dx1,_,_,rfl,k1,T.cl,T.n4,Ih,_,rfl,_,rfl,_,rfl,_,rfl,(by show 5≤sizeLine; decide),fun a ha=>?_⟩
  have Sa:Same H1 (upd H1 a (.tup (Ej.v ⟨S.deeds,n,r,c,l⟩))):=Same.upd ha
  have B2:=B1.same O Sa
  have k2':=Sa _ _ k2
  refine ⟨gl,_,_,rfl,rfl,k2',?_,?_⟩
  ·rw [List.length_map,k3]
   refine Nat.lt_of_le_of_lt (show t.gone.length≤1000 by omega) (by decide)
  ·refine k _ (B2.addGone hi k2' Ag ?_) ((F1.trans (Fr.of_same Sa)).trans (Fr.upd O (.inr (.inr (.inr (.inr rfl))))))
   show t.gone.length+1+(t.stand.filter fun m=>decide (m≠n)).length≤1000
   omega
theorem fK:Al ["self","name","last"] ["self","name","last"] (defScope Vi):=⟨rfl,rfl,rfl,by decide +kernel,rfl,by decide +kernel,by decide +kernel⟩
theorem cJ {f g:Addr} (F:FunB K "fade" "Shelf.fade" Vi f ["self","name","last"]) (T:STxt K C) (G:FnP P w K mg base 1 g ["self","name","reason","count","last"] (Hl (C:=C))) (M:Meth K C "take_off" g):FnP P w K mg base 8 f ["self","name","last"] (Q4 (Aq C) Bu):=by
 refine F.ok fK (fun vs H Q E h=>?_) (fun cdv A outer s H vs Q E hr h=>?_)
 ·obtain ⟨κ,S,t,n,l,_,rfl,_⟩:=h
  rfl
 ·obtain ⟨κ,S,t,n,l,hκ,rfl,B,k⟩:=h
  have O:=(Aq C).ok κ hκ
  obtain ⟨p,dc,dl,ds,gl,hi⟩:=id hκ
  obtain ⟨rfl,n0,n1,n2,n3⟩:=id hi
  obtain ⟨dx,h1⟩:=id B.ob
  obtain ⟨g1,_,g5,g6⟩:=id B.ex
  have hu:=Dj hr
  refine ⟨_,Af (Az (jM (Rw hu (pv 1) (Ax (pv 0) rfl))) (Af (Ak (Aw (pv 0) T.cl M G (hr.mono (by decide)) (Aa (pv 1) (Aa A4 (Aa Ab (Aa (pv 2) Ac))))))) Av),?_⟩
  refine ⟨_,rfl,_,rfl,p,C,dx,_,_,rfl,h1,T.cl,T.s2,Cj,ds,_,rfl,DGet.k (k:=Sum.inr n) g1,_,rfl,?_⟩
  rw [Ea]
  by_cases hn:n∈t.stand
  ·rw [if_pos hn]
   refine iteT ?_
   refine ⟨_,rfl,p,dx,_,rfl,h1,B.fno O (by decide +kernel) (by decide +kernel),_,rfl,_,rfl,?_⟩
   refine ⟨_,S,t,n,"faded",0,l,hκ,rfl,B,hn,fun H' B' F'=>k H' ?_ F'⟩
   unfold Bu
   rw [if_pos hn]
   exact B'
  ·rw [if_neg hn]
   refine iteF ?_
   refine k H ?_ Fr.refl
   unfold Bu
   rw [if_neg hn]
   exact B
def Im (S:BS) (n:Str):Int:=(lstE S n).getD 0
def Jh (S:BS) (t:ShS) (n:Str) (t':ShS):Prop:=
 if (t.stand.length:Int)=t.places then ∃ m∈t.stand,(∀ y∈t.stand,HT.A7 (Bd S y) (Bd S m)=false)∧t'=inS (offS t S.deeds m "crowded" (cntE S m) (Im S m)) n else t'=inS t n
def Bn (S:BS) (t:ShS):Prop:=∀ n∈t.stand,∃ e,A1 S.ents n=some e
def To:Sp:=fun vs H Q _=>∃ (κ:Kd ShS) (S:BS) (t:ShS) (n:Str),(Aq C).is κ∧vs=[.ref κ.p,.str n]∧Ah κ S t H∧Bn S t∧n∉t.stand∧1≤t.places∧t.gone.length+t.stand.length<1000∧∀ t' H',Jh S t n t'->Ah κ S t' H'->Fr κ H H'->Q .non H'
theorem Tx:Al ["self","name","weakest"] ["self","name"] (defScope Rb):=⟨rfl,rfl,rfl,by decide +kernel,rfl,by decide +kernel,by decide +kernel⟩
theorem Yn {f g gs:Addr} (F:FunB K "take_in" "Shelf.take_in" Rb f ["self","name"]) (T:STxt K C) (B:Blt mg) (G:FnP P w K mg base 1 g ["self","name","reason","count","last"] (Hl (C:=C))) (M:Meth K C "take_off" g)
  (Gs:FnP P w K mg base 1 gs ["self","name"] (E8 (Aq C))) (Ms:O8 K C "strength" gs):FnP P w K mg base 6 f ["self","name"] (To (C:=C)):=by
 obtain ⟨fds,Gs,bs,_⟩:=Gs
 refine F.ok Tx (fun vs H Q E h=>?_) (fun cdv A outer s H vs Q E hr h=>?_)
 ·obtain ⟨κ,S,t,n,_,rfl,_⟩:=h
  rfl
 ·obtain ⟨κ,S,t,n,hκ,rfl,B0,sin,hn,pl1,few,k⟩:=h
  have O:=(Aq C).ok κ hκ
  obtain ⟨p,dc,dl,ds,gl,hi⟩:=id hκ
  obtain ⟨rfl,n0,n1,n2,n3⟩:=id hi
  obtain ⟨dx,h1⟩:=id B0.ob
  obtain ⟨g1,_,g5,g6⟩:=id B0.ex
  have hu:=Dj hr
  refine ⟨_,Ad (Az (Ar Bo (Bi Zz rfl B.len PySem.boot_len (Aa (Ax (pv 0) rfl) Ac)) (Ax (pv 0) rfl) (Au _))
    (Ad (A3 (i:=2) Tx.nd rfl (Or.inl rfl) (gD rfl Gs (hr.mono (by decide)) bs rfl B.min_ (Ax (pv 0) rfl) (Ua (pv 0) T.cl Ms rfl)))
    (Af (Ak (Aw (pv 0) T.cl M G (hr.mono (by decide)) (Aa (pv 2) (Aa A4 (Aa (D7 hu (Ax (pv 0) rfl) (pv 2) (fun _ _=>rfl)) (Aa (D7 hu (Ax (pv 0) rfl) (pv 2) (fun _ _=>rfl)) Ac)))))))) Av)
   (Af (Jv hu (Ax (pv 0) rfl) (pv 1) C3 rfl)),?_⟩
  refine ⟨_,rfl,p,C,dx,_,_,rfl,h1,T.cl,T.s2,Cj,ds,_,rfl,g1,_,rfl,p,C,dx,_,_,rfl,h1,T.cl,T.s1,dX,rfl,_,rfl,?_⟩
  have elen:((tabS t.stand).length:Int)=(t.stand.length:Int):=by unfold tabS; rw [List.length_map]
  refine ite2 (fun hfull=>?_) (fun hfree=>?_)
  ·have hfull:(t.stand.length:Int)=t.places:=by rw [← elen]; exact V.int.inj (of_decide_eq_true hfull)
   refine ⟨_,rfl,p,C,dx,_,_,rfl,h1,T.cl,T.s2,Cj,_,rfl,p,dx,_,rfl,h1,B0.fno O (by decide +kernel) (by decide +kernel),fun q hq=>?_⟩
   have Sq:Same H (upd H q (.met gs p)):=Same.upd hq
   have hqq:(upd H q (.met gs p)) q=some (.met gs p):=Ag
   have B1:=B0.same O Sq
   generalize upd H q (.met gs p)=H1 at Sq hqq B1 ⊢
   obtain ⟨k1,_,_,_⟩:=id B1.ex
   have hne:t.stand≠[]:=fun z=>by rw [z] at hfull; have:(0:Int)=t.places:=hfull; omega
   refine ⟨q,p,ds,tabS t.stand,t.stand.map fun m=>(V.str m,Bd S m),rfl,rfl,hqq,k1,?_,?_,?_,?_⟩
   ·unfold tabS; rw [List.map_map,List.map_map]; rfl
   ·intro z; exact hne (List.map_eq_nil_iff.mp z)
   ·intro o z hz H' Q' SS hq'
    obtain ⟨m,hm,rfl⟩:=List.mem_map.mp hz
    obtain ⟨e,he⟩:=sin m hm
    have en:e.1=m:=(Be he).1
    subst en
    have BR:Qu (Ki C p dc dl ds gl) S t (upd H1 ds (.frz o (.dK (tabS t.stand)))):=by
     obtain ⟨⟨dx',a1⟩,a2,a3⟩:=B1.r
     refine ⟨⟨dx',?_⟩,?_,?_⟩
     ·show upd H1 ds _ p=_; rw [Ae (Ne.symm n1.1)]; exact a1
     ·show upd H1 ds _ dc=_; rw [Ae (Ne.symm n1.2.1)]; exact a2
     ·show upd H1 ds _ dl=_; rw [Ae (Ne.symm n1.2.2)]; exact a3
    refine ⟨_,S,t,e,hκ,rfl,BR.same SS,he,fun q2 hq2=>?_⟩
    have ek:Bd S e.1=[e.2.1,e.2.2]:=by unfold Bd; rw [he]
    have:=hq' q2 hq2
    rw [show ((V.str e.1,Bd S e.1):V×List Int).2=[e.2.1,e.2.2] from ek] at this
    exact this
   ·intro z hz hleast H2 S2
    obtain ⟨m,hm,rfl⟩:=List.mem_map.mp hz
    have hleast:∀ y∈t.stand,HT.A7 (Bd S y) (Bd S m)=false:=fun y hy=>hleast (V.str y,Bd S y) (List.mem_map.mpr ⟨y,hy,rfl⟩)
    obtain ⟨e,he⟩:=sin m hm
    have en:e.1=m:=(Be he).1
    have S12:=Sq.trans S2
    have B2:=B0.same O S12
    obtain ⟨dx2,b1⟩:=id B2.ob
    have gc:DGet H2 dc (.str m) (some (.int e.2.1)):=by
     have:=DGet.k (k:=Sum.inr m) B2.cn
     rw [Br,he] at this
     exact this
    have gl':DGet H2 dl (.str m) (some (.int e.2.2)):=by
     have:=DGet.k (k:=Sum.inr m) B2.ls
     rw [Br,he] at this
     exact this
    have ec:cntE S m=e.2.1:=by unfold cntE; rw [he]; rfl
    have el:Im S m=e.2.2:=by unfold Im lstE; rw [he]; rfl
    refine ⟨_,rfl,p,dx2,_,rfl,b1,B2.fno O (by decide +kernel) (by decide +kernel),_,rfl,_,rfl,p,C,dx2,_,_,rfl,b1,T.cl,T.n5,Cn,_,rfl,dc,_,rfl,gc,_,rfl,p,C,dx2,_,_,rfl,b1,T.cl,T.n6,Fu,_,rfl,dl,_,rfl,gl',?_⟩
    refine ⟨_,S,t,m,"crowded",e.2.1,e.2.2,hκ,rfl,B2,hm,fun H3 B3 F3=>?_⟩
    obtain ⟨dx3,c1⟩:=id B3.ob
    obtain ⟨c2,_,c5,c6⟩:=id B3.ex
    have hnot:n∉(offS t S.deeds m "crowded" e.2.1 e.2.2).stand:=fun z=>hn (List.mem_filter.mp z).1
    have hfl:=Ft g5 hm
    refine ⟨_,rfl,p,C,dx3,_,_,rfl,c1,T.cl,T.s2,Cj,_,rfl,ds,_,rfl,DPut.k (k:=Sum.inr n) c2 ?_,?_⟩
    ·unfold tabS
     rw [List.length_map]
     refine Nat.lt_of_le_of_lt (show (t.stand.filter fun y=>decide (y≠m)).length≤1000 by omega) (by decide)
    ·rw [Pu hnot]
     refine k (inS (offS t S.deeds m "crowded" e.2.1 e.2.2) n) _ ?_ (B3.setStand (t':=inS (offS t S.deeds m "crowded" e.2.1 e.2.2) n) hi rfl rfl ?_ ?_) (((Fr.of_same S12).trans F3).trans (Fr.upd O (.inr (.inr (.inr (.inl rfl))))))
     ·unfold Jh
      rw [if_pos hfull]
      exact ⟨m,hm,hleast,by rw [ec,el]⟩
     ·show ((t.stand.filter fun y=>decide (y≠m))++[n]).Nodup
      rw [List.nodup_append]
      exact ⟨List.filter_sublist.nodup g5,by simp,fun a ha b hb z=>hnot (by rw [List.mem_singleton.mp hb] at z; rw [← z]; exact ha)⟩
     ·show (t.gone++[_]).length+((t.stand.filter fun y=>decide (y≠m))++[n]).length≤1000
      rw [List.length_append,List.length_append]
      show t.gone.length+1+(_+1)≤1000
      omega
  ·have hfree:¬ (t.stand.length:Int)=t.places:=fun z=>hfree (decide_eq_true (by rw [elen,z]))
   refine ⟨_,rfl,p,C,dx,_,_,rfl,h1,T.cl,T.s2,Cj,_,rfl,ds,_,rfl,DPut.k (k:=Sum.inr n) g1 ?_,?_⟩
   ·unfold tabS
    rw [List.length_map]
    refine Nat.lt_of_le_of_lt (show t.stand.length≤1000 by omega) (by decide)
   ·rw [Pu hn]
    refine k (inS t n) _ ?_ (B0.setStand (t':=inS t n) hi rfl rfl ?_ ?_) (Fr.upd O (.inr (.inr (.inr (.inl rfl)))))
    ·unfold Jh
     rw [if_neg hfree]
    ·show (t.stand++[n]).Nodup
     rw [List.nodup_append]
     exact ⟨g5,by simp,fun a ha b hb z=>hn (by rw [List.mem_singleton.mp hb] at z; rw [← z]; exact ha)⟩
    ·show t.gone.length+(t.stand++[n]).length≤1000
     rw [List.length_append]
     show t.gone.length+(t.stand.length+1)≤1000
     omega
end
end Lk

namespace Lk
open PySem L2
theorem G6 {n:Str} {st:List Str} (h:n∉st):(st.filter fun m=>decide (m≠n))=st:=List.filter_eq_self.mpr fun a ha=>decide_eq_true fun z=>h (by rw [← z]; exact ha)
theorem G7 (d:Int) (n:Str) (l:Int) (t:ShS):(Bu d n l t).stand=t.stand.filter fun m=>decide (m≠n):=by
 unfold Bu
 by_cases h:n∈t.stand
 ·rw [if_pos h]; rfl
 ·rw [if_neg h,G6 h]
theorem Sr (d:Int) (n:Str) (l:Int) (t:ShS):(Bu d n l t).places=t.places:=by
 unfold Bu
 by_cases h:n∈t.stand
 ·rw [if_pos h]; rfl
 ·rw [if_neg h]
def ShS.many (t:ShS):Nat:=t.gone.length+t.stand.length
theorem Kr {t:ShS} {d:Int} {n r:Str} {c l:Int} (nd:t.stand.Nodup) (h:n∈t.stand):(offS t d n r c l).many=t.many:=by
 have:=Ft nd h
 unfold ShS.many offS
 dsimp only
 rw [List.length_append]
 show _+1+_=_
 omega
theorem Wf {d:Int} {n:Str} {l:Int} {t:ShS} (nd:t.stand.Nodup):(Bu d n l t).many=t.many:=by
 unfold Bu
 by_cases h:n∈t.stand
 ·rw [if_pos h,Kr nd h]
 ·rw [if_neg h]
theorem Li (d:Int):∀ (qs:List (Int×Str)) (t:ShS),(Dn Bu d qs t).stand=t.stand.filter (fun m=>decide (m∉qs.map (·.2)))∧(Dn Bu d qs t).places=t.places∧(t.stand.Nodup->(Dn Bu d qs t).many=t.many)
 | [],t=>⟨by show t.stand=_; rw [List.filter_eq_self.mpr]; intro a _; exact decide_eq_true (by simp),rfl,fun _=>rfl⟩
 | q::r,t=>by
   obtain ⟨h1,h2,h3⟩:=Li d r (Bu d q.2 q.1 t)
   refine ⟨?_,?_,fun nd=>?_⟩
   ·show (Dn Bu d r (Bu d q.2 q.1 t)).stand=_
    rw [h1,G7,List.filter_filter]
    refine List.filter_congr fun m _=>?_
    rw [List.map_cons,Bool.eq_iff_iff,Bool.and_eq_true,decide_eq_true_eq,decide_eq_true_eq,decide_eq_true_eq,List.mem_cons]
    exact ⟨fun z y=>y.elim (fun e=>z.2 e) z.1,fun z=>⟨fun y=>z (.inr y),fun y=>z (.inl y)⟩⟩
   ·show (Dn Bu d r (Bu d q.2 q.1 t)).places=_
    rw [h2,Sr]
   ·show (Dn Bu d r (Bu d q.2 q.1 t)).many=_
    rw [h3 (by rw [G7]; exact List.filter_sublist.nodup nd),Wf nd]
def iO (d:Int) (q:Int×Str):Ej:=⟨d,q.2,"faded",0,q.1⟩
theorem Ox (d:Int):∀ (qs:List (Int×Str)) (t:ShS),(qs.map (·.2)).Nodup->(Dn Bu d qs t).gone=t.gone++(qs.filter fun q=>decide (q.2∈t.stand)).map (iO d)
 | [],t,_=>(List.append_nil _).symm
 | q::r,t,nd=>by
   rw [List.map_cons,List.nodup_cons] at nd
   have h1:=Ox d r (Bu d q.2 q.1 t) nd.2
   have hst:(r.filter fun x=>decide (x.2∈(Bu d q.2 q.1 t).stand))=r.filter fun x=>decide (x.2∈t.stand):=List.filter_congr fun x hx=>by
    rw [G7,Bool.eq_iff_iff,decide_eq_true_eq,decide_eq_true_eq,List.mem_filter,decide_eq_true_eq]
    exact ⟨fun z=>z.1,fun z=>⟨z,fun e=>nd.1 (by rw [← e]; exact List.mem_map.mpr ⟨x,hx,rfl⟩)⟩⟩
   rw [hst] at h1
   show (Dn Bu d r (Bu d q.2 q.1 t)).gone=_
   rw [h1]
   by_cases h:q.2∈t.stand
   ·rw [List.filter_cons,if_pos (decide_eq_true h),List.map_cons]
    unfold Bu
    rw [if_pos h]
    show t.gone++[_]++_=_
    rw [List.append_assoc]; rfl
   ·rw [List.filter_cons,if_neg (by rw [decide_eq_true_eq]; exact h)]
    unfold Bu
    rw [if_neg h]
def Dz (S:BS) (steps:Int) (m:Str):Bool:=if 0<Bl S steps then decide (m∉(Cz S.ents S.part (Bl S steps)).map (·.1)) else true
structure Ji (S:BS) (steps:Int) (t t':ShS):Prop where
 st:t'.stand=t.stand.filter (Dz S steps)
 pl:t'.places=t.places
 mn:t.stand.Nodup->t'.many=t.many
 og:t.stand.Nodup->(An S.ents).Nodup->∃ qs:List (Int×Str),t'.gone=t.gone++qs.map (iO S.deeds)∧qs.Pairwise (fun a b=>a.1<b.1)∧(qs.map (·.2)).Perm (t.stand.filter fun m=>!Dz S steps m)∧∀ q∈qs,∃ e∈S.ents,e.1=q.2∧e.2.2=q.1
theorem Px {S:BS} {steps:Int} {t t':ShS} (h:Iq Bu S steps t t'):Ji S steps t t':=by
 unfold Iq at h
 by_cases hp:0<Bl S steps
 ·rw [if_pos hp] at h
  obtain ⟨qs,⟨pm,od⟩,rfl⟩:=h
  obtain ⟨h1,h2,h3⟩:=Li S.deeds qs t
  have hm:∀ m,(m∈qs.map (·.2))↔m∈(Cz S.ents S.part (Bl S steps)).map (·.1):=fun m=>by
   rw [(pm.map (·.2)).mem_iff,List.map_map]
   exact Iff.rfl
  refine ⟨?_,h2,h3,fun nt ne=>?_⟩
  ·rw [h1]
   refine List.filter_congr fun m _=>?_
   unfold Dz
   rw [if_pos hp,Bool.eq_iff_iff,decide_eq_true_eq,decide_eq_true_eq,hm]
  ·have nq:(qs.map (·.2)).Nodup:=by
    rw [(pm.map (·.2)).nodup_iff,List.map_map]
    exact (List.filter_sublist.map _).nodup ne
   refine ⟨_,Ox S.deeds qs t nq,od.filter _,?_,fun q hq=>?_⟩
   ·have e:(qs.filter fun q=>decide (q.2∈t.stand)).map (·.2)=(qs.map (·.2)).filter fun n=>decide (n∈t.stand):=by rw [List.filter_map]; rfl
    rw [e]
    refine (List.perm_ext_iff_of_nodup (List.filter_sublist.nodup nq) (List.filter_sublist.nodup nt)).mpr fun a=>?_
    rw [List.mem_filter,List.mem_filter,decide_eq_true_eq,hm]
    unfold Dz
    rw [if_pos hp,Bool.not_eq_true',decide_eq_false_iff_not,Classical.not_not]
    exact ⟨fun z=>⟨z.2,z.1⟩,fun z=>⟨z.2,z.1⟩⟩
   ·obtain ⟨e,he,rfl⟩:=List.mem_map.mp (pm.mem_iff.mp (List.mem_filter.mp hq).1)
    exact ⟨e,(List.mem_filter.mp he).1,rfl,rfl⟩
 ·rw [if_neg hp] at h
  subst h
  have hs:∀ a,Dz S steps a=true:=fun a=>by unfold Dz; rw [if_neg hp]
  refine ⟨?_,rfl,fun _=>rfl,fun _ _=>⟨[],(List.append_nil _).symm,.nil,?_,by simp⟩⟩
  ·rw [List.filter_eq_self.mpr]
   exact fun a _=>hs a
  ·rw [List.filter_eq_nil_iff.mpr (fun a _=>by rw [hs a]; decide)]
   exact List.Perm.refl _
theorem Jd {S:BS} {steps:Int} {m:Str} {e:Str×Int×Int} (nd:(An S.ents).Nodup) (h:A1 S.ents m=some e) (hs:Dz S steps m=true):∃ e',A1 (Bb S steps).ents m=some e':=by
 unfold Dz at hs
 unfold Bb
 dsimp only
 by_cases hp:0<Bl S steps
 ·rw [if_pos hp] at hs ⊢
  have hn:=of_decide_eq_true hs
  have he:Ij S.part (Bl S steps) e=true:=by
   cases q:Ij S.part (Bl S steps) e with
   | true=>rfl
   | false=>exact absurd (List.mem_map.mpr ⟨e,List.mem_filter.mpr ⟨De h,by rw [q]; rfl⟩,(Be h).1⟩) hn
  rw [Qf nd,h]
  exact ⟨_,if_pos (of_decide_eq_true he)⟩
 ·rw [if_neg hp]
  exact ⟨e,h⟩
theorem Bn.passed {S:BS} {steps:Int} {t t':ShS} (h:Bn S t) (nd:(An S.ents).Nodup) (p:Ji S steps t t'):Bn (Bb S steps) t':=by
 intro m hm
 rw [p.st] at hm
 obtain ⟨h1,h2⟩:=List.mem_filter.mp hm
 obtain ⟨e,he⟩:=h m h1
 exact Jd nd he h2
section
variable {P:Program} {w:World} {K:PySem.W.Frag} {mg:Str->Option Value} {base:Heap} {C:Addr}
theorem dA {κ:Kd ShS} {S:BS} {t:ShS} {H:Hp} (hκ:(Aq C).is κ) (B:Ah κ S t H):t.stand.Nodup:=by
 obtain ⟨p,dc,dl,ds,gl,rfl,_⟩:=hκ
 exact B.ex.nd
def AskT (S:BS) (n:Str) (t1 t':ShS):Prop:=if n∈t1.stand then t'=t1 else Jh S t1 n t'
def Qz (C:Addr):Sp:=fun vs H Q _=>∃ (κ:Kd ShS) (S:BS) (t:ShS) (n:Str) (w:Int),(Aq C).is κ∧vs=[.ref κ.p,.str n,.int w]∧Ah κ S t H∧Fit S∧Fit (Bb (A0 S) 1)∧A5 n∧1≤w∧w≤10 ^ 30∧Bn S t∧1≤t.places∧t.many<1000 ∧
 ∀ t1 t' H',Ji (A0 S) 1 t t1->AskT (Bb (A0 S) 1) n t1 t'->Ah κ (askS S n w) t' H'->Fr κ H H'->Q (.bl (decide (n∈t1.stand))) H'
theorem Ve:Al ["self","name","weight","met"] ["self","name","weight"] (defScope Jp):=⟨rfl,rfl,rfl,by decide +kernel,rfl,by decide +kernel,by decide +kernel⟩
theorem gJ {f gb gg gt:Addr} {fd:FuncData} {ds:List Value} (F:FunD K "ask" "Shelf.ask" Jp f fd ds) (T:STxt K C) (Gb:FnP P w K mg base 16 gb ["self","name","weight"] (Fa (Aq C) Bu)) (Mb:Meth K C "begin_ask" gb)
  (Gg:FnP P w K mg base 1 gg ["self","name","weight"] (Q3 (Aq C))) (Mg:Meth K C "grow" gg) (Gt:FnP P w K mg base 6 gt ["self","name"] (To (C:=C))) (Mt:Meth K C "take_in" gt):FnOk P w K mg base CX0 18 f fd ["self","name","weight"] (Qz C):=by
 refine F.ok Ve (fun vs H Q E h=>?_) (fun cdv A outer s H vs Q E hr h=>?_)
 ·obtain ⟨κ,S,t,n,w,_,rfl,_⟩:=h
  rfl
 ·obtain ⟨κ,S,t,n,w,hκ,rfl,B0,fit,fit1,gn1,w1,w2,sin,pl1,few,k⟩:=h
  have hC:=(Aq C).cls κ hκ
  have O:=(Aq C).ok κ hκ
  have hu:=Dj hr
  obtain ⟨dx,h1⟩:=B0.ob
  rw [hC] at h1
  refine ⟨_,Ad (Ak (Aw (pv 0) T.cl Mb Gb (hr.mono (by decide)) (Aa (pv 1) (Aa (pv 2) Ac))))
   (Ad (A3 (i:=3) Ve.nd rfl (Or.inl rfl) (Vs (Rw hu (pv 1) (Ax (pv 0) rfl))))
   (Ad (Az (Bv (Bp (pv 3))) (Af (Ak (Aw (pv 0) T.cl Mt Gt (hr.mono (by decide)) (Aa (pv 1) Ac)))) Av)
   (Ad (Ak (Aw (pv 0) T.cl Mg Gg (hr.mono (by decide)) (Aa (pv 1) (Aa (pv 2) Ac))))
   (Af (As (pv 3)))))),?_⟩
  refine ⟨_,rfl,κ.p,dx,_,rfl,h1,B0.fno O (by decide +kernel) (by decide +kernel),_,rfl,_,rfl,?_⟩
  refine ⟨κ,S,t,n,w,hκ,rfl,B0,fit,gn1,w1,w2,fun t1 H1 pt b1 f1=>?_⟩
  have pd:=Px pt
  have sin1:Bn (Bb (A0 S) 1) t1:=Bn.passed (S:=A0 S) sin fit.nd pd
  have few1:t1.many<1000:=by rw [pd.mn (dA hκ B0)]; exact few
  obtain ⟨dx1,g1⟩:=b1.ob
  rw [hC] at g1
  have hd1:∃ (ds:Addr) (x y:V),κ.ex t1=[(("places":Str),x),(("standing":Str),V.ref ds),(("gone":Str),y)]∧H1 ds=some (.dK (tabS t1.stand)):=by
   obtain ⟨p,dc,dl,ds,gl,rfl,_⟩:=id hκ
   exact ⟨ds,_,_,rfl,b1.ex.st⟩
  obtain ⟨ds,x,y,ex,hds⟩:=hd1
  rw [ex] at g1
  refine ⟨_,rfl,_,rfl,κ.p,C,dx1,_,_,rfl,g1,T.cl,T.s2,Cj,ds,_,rfl,DGet.k (k:=Sum.inr n) hds,?_⟩
  rw [Ea]
  have grow:∀ t' H2,AskT (Bb (A0 S) 1) n t1 t'->Ah κ (Bb (A0 S) 1) t' H2->Fr κ H H2->∀ H3,Ah κ (askS S n w) t' H3->Fr κ H2 H3->Q (.bl (decide (n∈t1.stand))) H3:=fun t' H2 at_ b2 f2 H3 b3 f3=>k t1 t' H3 pd at_ b3 (f2.trans f3)
  by_cases hn:n∈t1.stand
  ·rw [if_pos hn]
   refine ⟨_,rfl,_,rfl,?_⟩
   refine iteF ?_
   have g1':=b1.ob
   obtain ⟨dx2,g2⟩:=g1'
   rw [hC] at g2
   refine ⟨_,rfl,κ.p,dx2,_,rfl,g2,b1.fno O (by decide +kernel) (by decide +kernel),_,rfl,_,rfl,?_⟩
   refine ⟨κ,Bb (A0 S) 1,t1,n,w,hκ,rfl,b1,fit1.nd,fit1.few,fun H3 b3 f3=>⟨_,rfl,?_⟩⟩
   have:=grow t1 H1 (by unfold AskT; rw [if_pos hn]) b1 f1 H3 b3 f3
   rw [decide_eq_true hn] at this
   exact this
  ·rw [if_neg hn]
   refine ⟨_,rfl,_,rfl,?_⟩
   refine iteT ?_
   obtain ⟨dx2,g2⟩:=b1.ob
   rw [hC] at g2
   refine ⟨_,rfl,κ.p,dx2,_,rfl,g2,b1.fno O (by decide +kernel) (by decide +kernel),_,rfl,?_⟩
   refine ⟨κ,Bb (A0 S) 1,t1,n,hκ,rfl,b1,sin1,hn,by rw [pd.pl]; exact pl1,few1,fun t' H2 ti b2 f2=>?_⟩
   obtain ⟨dx3,g3⟩:=b2.ob
   rw [hC] at g3
   refine ⟨_,rfl,κ.p,dx3,_,rfl,g3,b2.fno O (by decide +kernel) (by decide +kernel),_,rfl,_,rfl,?_⟩
   refine ⟨κ,Bb (A0 S) 1,t',n,w,hκ,rfl,b2,fit1.nd,fit1.few,fun H3 b3 f3=>⟨_,rfl,?_⟩⟩
   have:=grow t' H2 (by unfold AskT; rw [if_neg hn]; exact ti) b2 (f1.trans f2) H3 b3 f3
   rw [decide_eq_false hn] at this
   exact this
def O9 (S:BS) (n:Str) (t t':ShS):Prop:=t'=if n∈t.stand then offS t (S.deeds+1) n "dropped" (cntE S n) (Im S n) else t
def Lx (C:Addr):Sp:=fun vs H Q _=>∃ (κ:Kd ShS) (S:BS) (t:ShS) (n:Str),(Aq C).is κ∧vs=[.ref κ.p,.str n]∧Ah κ S t H∧A5 n∧Bn S t ∧
 ∀ t' H',O9 S n t t'->Ah κ (A0 S) t' H'->Fr κ H H'->Q (.bl (decide (n∈t.stand))) H'
theorem Q8:Al ["self","name","stood"] ["self","name"] (defScope Rg):=⟨rfl,rfl,rfl,by decide +kernel,rfl,by decide +kernel,by decide +kernel⟩
theorem cK {f gb gt:Addr} (F:FunB K "drop" "Shelf.drop" Rg f ["self","name"]) (T:STxt K C) (Gb:FnP P w K mg base 4 gb ["self","name"] (Em (Aq C))) (Mb:Meth K C "begin_drop" gb)
  (Gt:FnP P w K mg base 1 gt ["self","name","reason","count","last"] (Hl (C:=C))) (Mt:Meth K C "take_off" gt):FnP P w K mg base 6 f ["self","name"] (Lx C):=by
 refine F.ok Q8 (fun vs H Q E h=>?_) (fun cdv A outer s H vs Q E hr h=>?_)
 ·obtain ⟨κ,S,t,n,_,rfl,_⟩:=h
  rfl
 ·obtain ⟨κ,S,t,n,hκ,rfl,B0,gn1,sin,k⟩:=h
  have hC:=(Aq C).cls κ hκ
  have O:=(Aq C).ok κ hκ
  have hu:=Dj hr
  obtain ⟨dx,h1⟩:=B0.ob
  rw [hC] at h1
  refine ⟨_,Ad (Ak (Aw (pv 0) T.cl Mb Gb (hr.mono (by decide)) (Aa (pv 1) Ac)))
   (Ad (A3 (i:=2) Q8.nd rfl (Or.inl rfl) (Vs (Rw hu (pv 1) (Ax (pv 0) rfl))))
   (Ad (Az (Bp (pv 2)) (Af (Ak (Aw (pv 0) T.cl Mt Gt (hr.mono (by decide)) (Aa (pv 1) (Aa A4 (Aa (D7 hu (Ax (pv 0) rfl) (pv 1) (fun _ _=>rfl)) (Aa (D7 hu (Ax (pv 0) rfl) (pv 1) (fun _ _=>rfl)) Ac))))))) Av)
   (Af (As (pv 2))))),?_⟩
  refine ⟨_,rfl,κ.p,dx,_,rfl,h1,B0.fno O (by decide +kernel) (by decide +kernel),_,rfl,?_⟩
  refine ⟨κ,S,t,n,hκ,rfl,B0,gn1,fun H1 b1 f1=>?_⟩
  obtain ⟨dx1,g1⟩:=b1.ob
  rw [hC] at g1
  have g0:=g1
  have hd1:∃ (ds:Addr) (x y:V),κ.ex t=[(("places":Str),x),(("standing":Str),V.ref ds),(("gone":Str),y)]∧H1 ds=some (.dK (tabS t.stand)):=by
   obtain ⟨p,dc,dl,ds,gl,rfl,_⟩:=id hκ
   exact ⟨ds,_,_,rfl,b1.ex.st⟩
  obtain ⟨ds,x,y,ex,hds⟩:=hd1
  rw [ex] at g1
  refine ⟨_,rfl,_,rfl,κ.p,C,dx1,_,_,rfl,g1,T.cl,T.s2,Cj,ds,_,rfl,DGet.k (k:=Sum.inr n) hds,?_⟩
  rw [Ea]
  by_cases hn:n∈t.stand
  ·rw [if_pos hn]
   refine ⟨_,rfl,_,rfl,?_⟩
   refine iteT ?_
   obtain ⟨e,he⟩:=sin n hn
   have gc:DGet H1 κ.dc (.str n) (some (.int e.2.1)):=by
    have:=DGet.k (k:=Sum.inr n) b1.cn
    rw [Br,show (A0 S).ents=S.ents from rfl,he] at this
    exact this
   have gl':DGet H1 κ.dl (.str n) (some (.int e.2.2)):=by
    have:=DGet.k (k:=Sum.inr n) b1.ls
    rw [Br,show (A0 S).ents=S.ents from rfl,he] at this
    exact this
   have ec:cntE S n=e.2.1:=by unfold cntE; rw [he]; rfl
   have el:Im S n=e.2.2:=by unfold Im lstE; rw [he]; rfl
   refine ⟨_,rfl,κ.p,dx1,_,rfl,g0,b1.fno O (by decide +kernel) (by decide +kernel),_,rfl,_,rfl,κ.p,C,dx1,_,_,rfl,g0,T.cl,T.n5,Cn,_,rfl,κ.dc,_,rfl,gc,_,rfl,κ.p,C,dx1,_,_,rfl,g0,T.cl,T.n6,Fu,_,rfl,κ.dl,_,rfl,gl',?_⟩
   refine ⟨κ,A0 S,t,n,"dropped",e.2.1,e.2.2,hκ,rfl,b1,hn,fun H2 b2 f2=>⟨_,rfl,?_⟩⟩
   have:=k _ H2 (by unfold O9; rw [if_pos hn,ec,el]; rfl) b2 (f1.trans f2)
   rw [decide_eq_true hn] at this
   exact this
  ·rw [if_neg hn]
   refine ⟨_,rfl,_,rfl,?_⟩
   refine iteF ?_
   refine ⟨_,rfl,?_⟩
   have:=k t H1 (by unfold O9; rw [if_neg hn]) b1 f1
   rw [decide_eq_false hn] at this
   exact this
def aI (C:Addr):Sp:=fun vs H Q _=>∃ (κ:Kd ShS) (S:BS) (t:ShS),(Aq C).is κ∧vs=[.ref κ.p]∧Ah κ S t H∧Ch S t.stand∧∀ l H' ys,H l=none->Same H H'->H' l=some (.lst (ys.map V.str))->Weak S t.stand ys->Q (.ref l) H'
theorem aX:Al ["self"] ["self"] (defScope Re):=⟨rfl,rfl,rfl,by decide +kernel,rfl,by decide +kernel,by decide +kernel⟩
theorem Yp {f g:Addr} (F:FunB K "names" "Shelf.names" Re f ["self"]) (T:STxt K C) (G:FnP P w K mg base 6 g ["self","names"] (Ho (Aq C) K)) (M:Meth K C "in_order" g):FnP P w K mg base 8 f ["self"] (aI C):=by
 refine F.ok aX (fun vs H Q E h=>?_) (fun cdv A outer s H vs Q E hr h=>?_)
 ·obtain ⟨κ,S,t,_,rfl,_⟩:=h
  rfl
 ·obtain ⟨κ,S,t,hκ,rfl,B1,hs,k⟩:=h
  have O:=(Aq C).ok κ hκ
  obtain ⟨p,dc,dl,ds,gl,hi⟩:=id hκ
  obtain ⟨rfl,n0,n1,n2,n3⟩:=id hi
  obtain ⟨dx,h1⟩:=id B1.ob
  refine ⟨_,Af (As (Aw (pv 0) T.cl M G (hr.mono (by decide)) (Aa (Ax (pv 0) rfl) Ac))),?_⟩
  refine ⟨_,rfl,p,dx,_,rfl,h1,B1.fno O (by decide +kernel) (by decide +kernel),_,rfl,p,C,dx,_,_,rfl,h1,T.cl,T.s2,Cj,?_⟩
  refine ⟨_,S,t,_,t.stand,hκ,rfl,B1,⟨ds,rfl,.inr ⟨_,.inl B1.ex.st,?_⟩⟩,hs,k⟩
  unfold tabS
  rw [List.map_map]
  rfl
def E9:Sp:=fun vs H Q _=>∃ x:Int,vs=[.int x]∧1≤x∧x≤1000∧Q .non H
theorem Nk:Al ["places"] ["places"] (defScope Ht):=⟨rfl,rfl,rfl,by decide +kernel,rfl,by decide +kernel,by decide +kernel⟩
theorem Uh {f g:Addr} (F:FunB K "check_places" "check_places" Ht f ["places"]) (G:FnP P w K mg base 1 g ["value","least","most"] E7) (hg:mg "is_whole_within"=some (.ref g)):FnP P w K mg base 2 f ["places"] E9:=by
 refine F.ok Nk (fun vs H Q E h=>?_) (fun cdv A outer s H vs Q E hr h=>?_)
 ·obtain ⟨x,rfl,_⟩:=h
  rfl
 ·obtain ⟨x,rfl,g1,g2,k⟩:=h
  refine ⟨_,Af (Az (Bv (Bp (Am G hr hg (Aa (pv 0) (Aa Ab (Aa Ab Ac)))))) A2 Av),?_⟩
  refine ⟨_,rfl,x,_,_,rfl,_,rfl,?_⟩
  rw [decide_eq_true (show (1:Int)≤x from g1),decide_eq_true (show x≤1000 from g2)]
  exact iteF k
def Wy (C:Addr):Sp:=fun vs H Q _=>∃ (p dx:Addr) (places span part:Int),vs=[.ref p,.int places,.int span,.int part]∧H p=some (.ins C dx [])∧1≤places∧places≤1000∧1≤span∧span≤10 ^ 20∧2≤part∧part≤10 ^ 30 ∧
 ∀ κ H',(Aq C).is κ->κ.p=p->(∀ b,κ.own b->b=p∨H b=none)->Ah κ (C2 span part) ⟨places,[],[]⟩ H'->(∀ b o,H b=some o->b≠p->H' b=some o)->Q .non H'
theorem W9:Al ["self","places","span","part"] ["self","places","span","part"] (defScope Rf):=⟨rfl,rfl,rfl,by decide +kernel,rfl,by decide +kernel,by decide +kernel⟩
theorem cH {f gp gi C0:Addr} (F:FunB K "__init__" "Shelf.__init__" Rf f ["self","places","span","part"]) (T:STxt K C) (Gp:FnP P w K mg base 2 gp ["places"] E9) (hgp:mg "check_places"=some (.ref gp))
  (hC0:mg "Book"=some (.ref C0)) (cm:Pb K C0 "__init__" gi) (Gi:FnP P w K mg base 4 gi ["self","span","part"] (Q2 C)):FnP P w K mg base 6 f ["self","places","span","part"] (Wy C):=by
 refine F.ok W9 (fun vs H Q E h=>?_) (fun cdv A outer s H vs Q E hr h=>?_)
 ·obtain ⟨p,dx,places,span,part,rfl,_⟩:=h
  rfl
 ·obtain ⟨p,dx,places,span,part,rfl,hp,l1,l2,g1,g2,g3,g4,k⟩:=h
  refine ⟨_,Ad (Ak (Am Gp (hr.mono (by decide)) hgp (Aa (pv 1) Ac)))
   (Ad (Ak (Xj hC0 cm Gi (hr.mono (by decide)) (Aa (pv 0) (Aa (pv 2) (Aa (pv 3) Ac)))))
   (Ad (Eg (pv 0) (pv 1) rfl) (Ad (Eg (pv 0) Gk rfl) (Af (Eg (pv 0) (C5 Ac) rfl))))),?_⟩
  refine ⟨_,rfl,places,rfl,l1,l2,?_⟩
  refine ⟨_,rfl,_,rfl,_,rfl,?_⟩
  refine ⟨p,dx,span,part,rfl,hp,g1,g2,g3,g4,fun dc dl H1 hdc hdl n0 h1 hc hl k1=>?_⟩
  refine ⟨_,rfl,_,rfl,p,C,dx,_,rfl,h1,T.cl,T.s1,(by show 6<1000; decide),?_⟩
  have npc:p≠dc:=Aj hp hdc
  have npl:p≠dl:=Aj hp hdl
  intro ds hds
  have nps:p≠ds:=Aj Ag hds
  have ncs:dc≠ds:=Aj (by rw [Ae npc.symm]; exact hc) hds
  have nls:dl≠ds:=Aj (by rw [Ae npl.symm]; exact hl) hds
  refine ⟨_,rfl,p,C,dx,_,rfl,(by rw [Ae nps]; exact Ag),T.cl,T.s2,(by show 7<1000; decide),?_⟩
  refine ⟨by show 0≤sizeLine; decide,fun gl hgl=>?_⟩
  have npg:p≠gl:=Aj Ag hgl
  have ncg:dc≠gl:=Aj (o:=.dK []) (by rw [Ae npc.symm,Ae ncs,Ae npc.symm]; exact hc) hgl
  have nlg:dl≠gl:=Aj (o:=.dK []) (by rw [Ae npl.symm,Ae nls,Ae npl.symm]; exact hl) hgl
  have nsg:ds≠gl:=Aj (o:=.dK []) (by rw [Ae nps.symm,Ag]) hgl
  refine ⟨_,rfl,p,C,dx,_,rfl,(by rw [Ae npg]; exact Ag),T.cl,T.s3,(by show 8<1000; decide),?_⟩
  have old:∀ b,H1 b=none->b≠p->H b=none:=fun b e ne=>by
   cases q:H b with
   | none=>rfl
   | some o=>rw [k1 b o q ne] at e; cases e
  have ds0:H ds=none:=old ds (by rw [Ae nps.symm] at hds; exact hds) nps.symm
  have gl0:H gl=none:=old gl (by rw [Ae npg.symm,Ae nsg.symm,Ae npg.symm] at hgl; exact hgl) npg.symm
  have hi:ShIs C (Ki C p dc dl ds gl) p dc dl ds gl:=⟨rfl,n0,⟨nps.symm,ncs.symm,nls.symm⟩,⟨npg.symm,ncg.symm,nlg.symm⟩,nsg⟩
  refine k (Ki C p dc dl ds gl) _ ⟨p,dc,dl,ds,gl,hi⟩ rfl ?_ ?_ ?_
  ·rintro b (rfl | rfl | rfl | rfl | rfl)
   ·exact .inl rfl
   ·exact .inr hdc
   ·exact .inr hdl
   ·exact .inr ds0
   ·exact .inr gl0
  ·refine ⟨⟨dx,Ag⟩,?_,?_,⟨?_,⟨[],?_,rfl,fun j a g e=>by simp at e⟩,List.nodup_nil,by show 0≤1000; decide⟩,?_⟩
   ·show upd _ p _ dc=_
    rw [Ae npc.symm,Ae ncg,Ae npc.symm,Ae ncs,Ae npc.symm]; exact hc
   ·show upd _ p _ dl=_
    rw [Ae npl.symm,Ae nlg,Ae npl.symm,Ae nls,Ae npl.symm]; exact hl
   ·show upd _ p _ ds=_
    rw [Ae nps.symm,Ae nsg,Ae nps.symm,Ag]; rfl
   ·show upd _ p _ gl=_
    rw [Ae npg.symm,Ag]; rfl
   ·rintro b (rfl | rfl | rfl | rfl | rfl)
    ·exact ⟨_,Ag,by intro xs z; cases z⟩
    ·exact ⟨.dK [],by rw [Ae npc.symm,Ae ncg,Ae npc.symm,Ae ncs,Ae npc.symm]; exact hc,by intro xs z; cases z⟩
    ·exact ⟨.dK [],by rw [Ae npl.symm,Ae nlg,Ae npl.symm,Ae nls,Ae npl.symm]; exact hl,by intro xs z; cases z⟩
    ·exact ⟨.dK [],by rw [Ae nps.symm,Ae nsg,Ae nps.symm,Ag],by intro xs z; cases z⟩
    ·exact ⟨.lst [],by rw [Ae npg.symm,Ag],by intro xs z; cases z⟩
  ·intro b o e hb
   rw [Ae hb,Ae (Aj e gl0),Ae hb,Ae (Aj e ds0),Ae hb]
   exact k1 b o e hb
end
end Lk

namespace Lk
open PySem L2
theorem Er {S:BS} {st:Int} {n:Str} (h:n∈An (Bb S st).ents):n∈An S.ents:=by
 unfold Bb at h
 dsimp only at h
 by_cases hp:0<Bl S st
 ·rw [if_pos hp] at h; exact Jg h
 ·rw [if_neg hp] at h; exact h
theorem Tm {S:BS} {ns:List Str} {d:Dd} (gd:Qt ns d) (h:∀ n∈An S.ents,n∈ns):∀ n∈An (El S d).ents,n∈ns:=by
 intro n hn
 cases d with
 | rest z=>exact h n (Er (S:=A0 S) hn)
 | drop m=>exact h n hn
 | ask m w=>
   have hn:n∈An (Cy (Bb (A0 S) 1).ents m w _):=hn
   rw [Lh] at hn
   by_cases q:m∈An (Bb (A0 S) 1).ents
   ·rw [if_pos q] at hn; exact h n (Er (S:=A0 S) hn)
   ·rw [if_neg q] at hn
    rcases List.mem_append.mp hn with z | z
    ·exact h n (Er (S:=A0 S) z)
    ·rw [List.mem_singleton.mp z]; exact gd.1
structure Now (ns:List Str) (sp pt:Int) (k:Nat) (S:BS):Prop where
 co:Core S k
 dk:S.deeds=(k:Int)
 t0:0≤S.time
 es:S.span=sp
 ep:S.part=pt
 nm:∀ n∈An S.ents,n∈ns
theorem Now.C9 (ns:List Str) (sp pt:Int):Now ns sp pt 0 (C2 sp pt):=
 ⟨⟨List.nodup_nil,by simp [C2],by simp [C2],Nat.zero_le _⟩,rfl,Int.le_refl _,rfl,rfl,by simp [C2,An]⟩
theorem Now.step {ns:List Str} {sp pt:Int} {k:Nat} {S:BS} (h:Now ns sp pt k S) {d:Dd} (gd:Qt ns d):Now ns sp pt (k+1) (El S d):=by
 have cd:Core (A0 S) k:=h.co.of rfl
 have ed:S.deeds+1=((k+1:Nat):Int):=by rw [h.dk]; push_cast; rfl
 have ht:=h.t0
 refine ⟨?_,?_,?_,?_,?_,Tm gd h.nm⟩
 ·cases d with
  | rest z=>exact (cd.pass (st:=z)).up
  | drop m=>exact cd.up
  | ask m w=>
    have:=(cd.pass (st:=1)).grow (n:=m) gd.2.1 gd.2.2
    rw [← ed] at this
    exact this
 ·cases d <;> exact ed
 ·cases d with
  | rest z=>show 0≤S.time+z; have:=gd.1; omega
  | drop m=>exact ht
  | ask m w=>show 0≤S.time+1; omega
 ·cases d <;> exact h.es
 ·cases d <;> exact h.ep
theorem kI {S:BS} {ns:List Str} (nd:(An S.ents).Nodup) (nm:∀ n∈An S.ents,n∈ns) (hl:ns.length≤30):S.ents.length<64:=by
 have:=PySem.length_le_of_nodup_of_subset _ _ nd nm
 unfold An at this
 rw [List.length_map] at this
 omega
theorem dW {S:BS} {ns:List Str} {k:Nat} (c:Core S k) (hk:k≤1000) (s1:1≤S.span) (s2:S.span≤10 ^ 20) (p1:2≤S.part) (p2:S.part≤10 ^ 30) (t0:0≤S.time) (nm:∀ n∈An S.ents,n∈ns) (hl:ns.length≤30):Fit S:=
 ⟨s1,s2,p1,p2,t0,c.nd,fun e he=>⟨(c.pos e he).1,by have:=(c.pos e he).2.1; omega⟩,c.inj,kI c.nd nm hl⟩
theorem Now.fit {ns:List Str} {sp pt:Int} {k:Nat} {S:BS} (h:Now ns sp pt k S) (hk:k≤1000) (s1:1≤sp) (s2:sp≤10 ^ 20) (p1:2≤pt) (p2:pt≤10 ^ 30) (hl:ns.length≤30):Fit S:=
 dW h.co hk (by rw [h.es]; exact s1) (by rw [h.es]; exact s2) (by rw [h.ep]; exact p1) (by rw [h.ep]; exact p2) h.t0 h.nm hl
theorem Now.fit1 {ns:List Str} {sp pt:Int} {k:Nat} {S:BS} (h:Now ns sp pt k S) (hk:k≤1000) (s1:1≤sp) (s2:sp≤10 ^ 20) (p1:2≤pt) (p2:pt≤10 ^ 30) (hl:ns.length≤30):Fit (Bb (A0 S) 1):=by
 have cd:Core (A0 S) k:=h.co.of rfl
 have ht:=h.t0
 exact dW (cd.pass (st:=1)) hk (by show 1≤S.span; rw [h.es]; exact s1) (by show S.span≤_; rw [h.es]; exact s2) (by show 2≤S.part; rw [h.ep]; exact p1) (by show S.part≤_; rw [h.ep]; exact p2) (by show 0≤S.time+1; omega) (fun n hn=>h.nm n (Er (S:=A0 S) hn)) hl
theorem Tn {S:BS} {t:ShS} {ns:List Str} (h:Bn S t) (nm:∀ n∈An S.ents,n∈ns):∀ n∈t.stand,n∈ns:=fun n hn=>by
 obtain ⟨e,he⟩:=h n hn
 exact nm n (List.mem_map.mpr ⟨e,De he,(Be he).1⟩)
theorem Nc {S:BS} {t:ShS} {ns:List Str} {k:Nat} (h:Bn S t) (c:Core S k) (nd:t.stand.Nodup) (nm:∀ n∈An S.ents,n∈ns) (hl:ns.length≤30):Ch S t.stand:=
 ⟨h,by have:=PySem.length_le_of_nodup_of_subset _ _ nd (Tn h nm); omega,nd,c.inj⟩
theorem P7:∀ {a b:List Int},HT.A7 a b=true->HT.A7 b a=false
 | [],[],h=>by cases h
 | [],_::_,_=>rfl
 | _::_,[],h=>by cases h
 | x::r,y::s,h=>by
   rw [HT.Ci] at h ⊢
   by_cases e:x=y
   ·rw [if_pos e] at h; rw [if_pos e.symm]; exact P7 h
   ·rw [if_neg e] at h; rw [if_neg (fun z=>e z.symm)]
    have:=of_decide_eq_true h
    exact decide_eq_false (by omega)
theorem P5:∀ {a b:List Int},a.length=b.length->HT.A7 a b=false->HT.A7 b a=false->a=b
 | [],[],_,_,_=>rfl
 | [],_::_,h,_,_=>by cases h
 | _::_,[],h,_,_=>by cases h
 | x::r,y::s,h,h1,h2=>by
   rw [HT.Ci] at h1 h2
   by_cases e:x=y
   ·rw [if_pos e] at h1; rw [if_pos e.symm] at h2
    rw [e,P5 (Nat.succ.inj h) h1 h2]
   ·rw [if_neg e] at h1; rw [if_neg (fun z=>e z.symm)] at h2
    have h1:=of_decide_eq_false h1
    have h2:=of_decide_eq_false h2
    omega
theorem dI {S:BS} {a b:Str} (inj:∀ x∈S.ents,∀ y∈S.ents,x.2.2=y.2.2->x.1=y.1) (ha:∃ e,A1 S.ents a=some e) (hb:∃ e,A1 S.ents b=some e) (h1:HT.A7 (Bd S a) (Bd S b)=false) (h2:HT.A7 (Bd S b) (Bd S a)=false):a=b:=by
 obtain ⟨x,hx⟩:=ha
 obtain ⟨y,hy⟩:=hb
 unfold Bd at h1 h2
 rw [hx,hy] at h1 h2
 have e:=P5 (by rfl) h1 h2
 have hl:x.2.2=y.2.2:=(List.cons.inj (List.cons.inj e).2).1
 have:=inj x (De hx) y (De hy) hl
 rw [(Be hx).1,(Be hy).1] at this
 exact this
def Pa (S:BS) (d:Dd) (t t':ShS) (v:V):Prop:=match d with
 | .ask n _=>∃ t1,Ji (A0 S) 1 t t1∧AskT (Bb (A0 S) 1) n t1 t'∧v=.bl (decide (n∈t1.stand))
 | .rest k=>Ji (A0 S) k t t'∧v=.int (Bl S k)
 | .drop n=>O9 S n t t'∧v=.bl (decide (n∈t.stand))
def iG (C:Addr):Sp:=fun vs H Q _=>∃ (κ:Kd ShS) (S:BS) (t:ShS) (q:Addr) (d:Dd) (ns:List Str),(Aq C).is κ∧vs=[.ref κ.p,.ref q]∧H q=some (.tup (Dd.v d))∧Ah κ S t H∧Fit S∧Fit (Bb (A0 S) 1)∧Qt ns d∧(∀ n∈ns,A5 n)∧Bn S t∧1≤t.places∧t.many<1000 ∧
 ∀ t' v H',Pa S d t t' v->Ah κ (El S d) t' H'->Fr κ H H'->Q v H'
theorem eE {C:Addr} {vs:List V} {H:Hp} {Q:VK} {E:XK} (h:iG C vs H Q E):spDo C (Qz C) (Es (Aq C) Bu) (Lx C) vs H Q E:=by
 obtain ⟨κ,S,t,q,d,ns,hκ,rfl,hq,B,fit,fit1,gd,gn,sin,pl,few,k⟩:=h
 obtain ⟨dx,h1⟩:=B.ob
 have hC:=(Aq C).cls κ hκ
 have O:=(Aq C).ok κ hκ
 rw [hC] at h1
 refine ⟨κ.p,q,dx,d,_,rfl,hq,h1,B.fno O (by decide +kernel) (by decide +kernel),B.fno O (by decide +kernel) (by decide +kernel),B.fno O (by decide +kernel) (by decide +kernel),?_⟩
 cases d with
 | ask n w=>exact ⟨κ,S,t,n,w,hκ,rfl,B,fit,fit1,gn n gd.1,gd.2.1,gd.2.2,sin,pl,few,fun t1 t' H' p a b f=>k t' _ H' ⟨t1,p,a,rfl⟩ b f⟩
 | rest z=>exact ⟨κ,S,t,z,hκ,rfl,B,fit,gd.1,gd.2,fun t' H' p b f=>k t' _ H' ⟨Px p,rfl⟩ b f⟩
 | drop n=>exact ⟨κ,S,t,n,hκ,rfl,B,gn n gd,sin,fun t' H' p b f=>k t' _ H' ⟨p,rfl⟩ b f⟩
theorem Up {t:ShS} {n:Str}:(inS t n).many=t.many+1:=by
 unfold ShS.many inS
 dsimp only
 rw [List.length_append]
 show _+(_+1)=_
 omega
theorem Z2 {S:BS} {n:Str} {t t':ShS} (nd:t.stand.Nodup) (h:AskT S n t t'):t'.many≤t.many+1:=by
 unfold AskT at h
 by_cases hn:n∈t.stand
 ·rw [if_pos hn] at h; rw [h]; omega
 ·rw [if_neg hn] at h
  unfold Jh at h
  by_cases hf:(t.stand.length:Int)=t.places
  ·rw [if_pos hf] at h
   obtain ⟨m,hm,_,rfl⟩:=h
   rw [Up,Kr nd hm]
   omega
  ·rw [if_neg hf] at h
   rw [h,Up]
   omega
theorem Lj {S:BS} {n:Str} {t t':ShS} (h:O9 S n t t'):t'.stand=t.stand.filter (fun m=>decide (m≠n))∧t'.places=t.places∧(t.stand.Nodup->t'.many=t.many):=by
 unfold O9 at h
 by_cases hn:n∈t.stand
 ·rw [if_pos hn] at h; subst h
  exact ⟨rfl,rfl,fun nd=>Kr nd hn⟩
 ·rw [if_neg hn] at h; subst h
  exact ⟨(G6 hn).symm,rfl,fun _=>rfl⟩
theorem Wk {S:BS} {d:Dd} {t t':ShS} {v:V} (nd:t.stand.Nodup) (h:Pa S d t t' v):t'.many≤t.many+1:=by
 cases d with
 | ask n w=>
   obtain ⟨t1,p,a,_⟩:=h
   have:=Z2 (by rw [p.st]; exact List.filter_sublist.nodup nd) a
   rw [p.mn nd] at this
   exact this
 | rest z=>obtain ⟨p,_⟩:=h; rw [p.mn nd]; omega
 | drop n=>obtain ⟨p,_⟩:=h; rw [(Lj p).2.2 nd]; omega
theorem Bn.grow {S:BS} {t:ShS} {n:Str} {w d:Int} (h:∀ m∈t.stand,m=n∨∃ e,A1 S.ents m=some e):Bn {S with ents:=Cy S.ents n w d} t:=by
 intro m hm
 show ∃ e,A1 (Cy S.ents n w d) m=some e
 rw [O0]
 by_cases e:m=n
 ·rw [if_pos e]; exact ⟨_,rfl⟩
 ·rw [if_neg e]; exact (h m hm).resolve_left e
end Lk

namespace Lk
open PySem L2
section
variable {P:Program} {w:World} {K:PySem.W.Frag} {mg:Str->Option Value} {base:Heap} {C:Addr}
theorem jG:Al ["self","name"] ["self","name"] (defScope bI):=⟨rfl,rfl,rfl,by decide +kernel,rfl,by decide +kernel,by decide +kernel⟩
def Pj (C:Addr) (K:PySem.W.Frag):Sp:=fun vs H Q _=>∃ (κ:Kd ShS) (S:BS) (t:ShS),(Aq C).is κ∧vs=[.ref κ.p]∧Ah κ S t H∧∀ l (ts:List Addr),H l=none->ts.length=t.gone.length->(∀ (j:Nat) (a:Addr) (g:Ej),ts[j]?=some a->t.gone[j]?=some g->H a=some (.tup g.v))->Q (.ref l) (upd H l (.lst (ts.map V.ref)))
theorem Yd:Al ["self"] ["self"] (defScope Np):=⟨rfl,rfl,rfl,by decide +kernel,rfl,by decide +kernel,by decide +kernel⟩
theorem Vu {f:Addr} (F:FunB K "goings" "Shelf.goings" Np f ["self"]) (B:Blt mg) (T:STxt K C):FnP P w K mg base 1 f ["self"] (Pj C K):=by
 refine F.ok Yd (fun vs H Q E h=>?_) (fun cdv A outer s H vs Q E hr h=>?_)
 ·obtain ⟨κ,S,t,_,rfl,_⟩:=h
  rfl
 ·obtain ⟨κ,S,t,hκ,rfl,B1,k⟩:=h
  obtain ⟨p,dc,dl,ds,gl,hi⟩:=id hκ
  obtain ⟨rfl,n0,n1,n2,n3⟩:=id hi
  obtain ⟨dx,h1⟩:=id B1.ob
  obtain ⟨ts,g2,g3,g4⟩:=B1.ex.gn
  refine ⟨_,Af (As (Hw J8 rfl B.list PyProof.Rows.boot_list (Aa (Ax (pv 0) rfl) Ac))),?_⟩
  refine ⟨_,rfl,p,C,dx,_,_,rfl,h1,T.cl,T.s3,dY,?_⟩
  exact ⟨gl,_,rfl,.inl (SqL.of g2),fun l hl=>k l ts hl g3 g4⟩
end
end Lk

namespace Lk
open PySem L2
abbrev Line:=List (Option Str)
def Has (L:Line) (i:Nat) (m:Str):Prop:=L[i]?=some (some m)
def InP (L:Line) (p:Nat) (m:Str):Prop:=∃ i,i<p∧Has L i m
def ND (L:Line):Prop:=∀ i j m,Has L i m->Has L j m->i=j
def trim:Line->Line
 | []=>[]
 | x::r=>match x,trim r with
   | none,[]=>[]
   | y,s=>y::s
theorem Co (x:Option Str) (r:Line):trim (x::r)=if x=none∧trim r=[] then [] else x::trim r:=by
 cases x with
 | none=>
   cases h:trim r with
   | nil=>rw [if_pos ⟨rfl,rfl⟩]; show (match (none:Option Str),trim r with | none,[]=>[] | y,s=>y::s)=_; rw [h]
   | cons y s=>rw [if_neg (fun z=>by cases z.2)]; show (match (none:Option Str),trim r with | none,[]=>[] | y,s=>y::s)=_; rw [h]
 | some m=>rw [if_neg (fun z=>by cases z.1)]; rfl
theorem Oo {m:Str}:∀ {L:Line} {i:Nat},Has (trim L) i m↔Has L i m
 | [],i=>Iff.rfl
 | x::r,i=>by
   rw [Co]
   by_cases h:x=none∧trim r=[]
   ·rw [if_pos h]
    refine ⟨fun z=>by simp [Has] at z,fun z=>?_⟩
    cases i with
    | zero=>rw [h.1] at z; simp [Has] at z
    | succ i=>
      have z:Has r i m:=by simpa [Has] using z
      rw [← Oo,h.2] at z
      simp [Has] at z
   ·rw [if_neg h]
    cases i with
    | zero=>exact Iff.rfl
    | succ i=>simpa [Has] using Oo (L:=r) (i:=i) (m:=m)
theorem M5 (L:Line):trim (L++[none])=trim L:=by
 induction L with
 | nil=>rfl
 | cons x r ih=>rw [List.cons_append,Co,Co,ih]
theorem M0 (L:Line) (m:Str):trim (L++[some m])=L++[some m]:=by
 induction L with
 | nil=>rfl
 | cons x r ih=>rw [List.cons_append,Co,ih,if_neg (fun z=>by cases r <;> cases z.2)]
theorem Ti:∀ L:Line,(trim L).length≤L.length
 | []=>Nat.le_refl _
 | x::r=>by
   rw [Co]
   have:=Ti r
   by_cases h:x=none∧trim r=[]
   ·rw [if_pos h]; exact Nat.zero_le _
   ·rw [if_neg h]; simp only [List.length_cons]; omega
def Da (L:Line) (n:Str):Option Nat:=L.findIdx? fun x=>decide (x=some n)
theorem Do {L:Line} {n:Str} {i:Nat} (h:Da L n=some i):Has L i n∧(∀ j,j<i->¬ Has L j n):=by
 obtain ⟨h1,h2,h3⟩:=List.findIdx?_eq_some_iff_getElem.mp h
 refine ⟨?_,fun j hj z=>?_⟩
 ·show L[i]?=some (some n)
  rw [List.getElem?_eq_getElem h1]
  exact congrArg some (of_decide_eq_true h2)
 ·have hjl:j<L.length:=Nat.lt_trans hj h1
  have z:L[j]?=some (some n):=z
  rw [List.getElem?_eq_getElem hjl] at z
  exact h3 j hj (decide_eq_true (Option.some.inj z))
theorem U6 {L:Line} {n:Str} (h:Da L n=none):∀ i,¬ Has L i n:=fun i z=>by
 have:=List.findIdx?_eq_none_iff.mp h (some n) (List.mem_of_getElem? z)
 exact absurd rfl (of_decide_eq_false this)
def rmv (L:Line) (n:Str):Line:=match Da L n with
 | some i=>trim (L.set i none)
 | none=>L
theorem hG {L:Line} {i j:Nat} {m:Str}:Has (L.set i none) j m↔Has L j m∧j≠i:=by
 unfold Has
 by_cases e:j=i
 ·subst e
  refine ⟨fun z=>?_,fun z=>absurd rfl z.2⟩
  by_cases h:j<L.length
  ·rw [List.getElem?_set_self h] at z; cases z
  ·rw [List.getElem?_eq_none (by rw [List.length_set]; omega)] at z; cases z
 ·rw [List.getElem?_set_ne (fun z=>e z.symm)]
  exact ⟨fun z=>⟨z,e⟩,fun z=>z.1⟩
theorem Fo {L:Line} {n m:Str} {i:Nat} (nd:ND L):Has (rmv L n) i m↔Has L i m∧m≠n:=by
 unfold rmv
 cases e:Da L n with
 | none=>
   refine ⟨fun z=>⟨z,fun y=>?_⟩,fun z=>z.1⟩
   rw [y] at z; exact U6 e i z
 | some j=>
   show Has (trim (L.set j none)) i m↔_
   rw [Oo,hG]
   have hj:=(Do e).1
   refine ⟨fun z=>⟨z.1,fun y=>z.2 ?_⟩,fun z=>⟨z.1,fun y=>z.2 ?_⟩⟩
   ·subst y; exact nd i j m z.1 hj
   ·subst y
    have:some (some m)=some (some n):=z.1.symm.trans hj
    exact Option.some.inj (Option.some.inj this)
theorem E4 {L L':Line} (nd:ND L) (h:∀ i m,Has L' i m->Has L i m):ND L':=fun i j m a b=>nd i j m (h i m a) (h j m b)
theorem L9 (L:Line) (n:Str):(rmv L n).length≤L.length:=by
 unfold rmv
 cases Da L n with
 | none=>exact Nat.le_refl _
 | some j=>exact Nat.le_trans (Ti _) (by rw [List.length_set]; exact Nat.le_refl _)
theorem Jc {L:Line} {i:Nat} {m:Str} (h:Has L i m):i<L.length:=(List.getElem?_eq_some_iff.mp h).1
def Cu (S:BS):Str->Line->Line
 | c,[]=>[some c]
 | c,none::r=>some c::r
 | c,some t::r=>if HT.A7 (Bd S t) (Bd S c)=true then some c::Cu S t r else some t::Cu S c r
def C4 (S:BS) (n:Str):Line->Line
 | []=>[some n]
 | none::r=>some n::r
 | some t::r=>some n::Cu S t r
theorem Bf {x:Option Str} {r:Line} {m:Str}:Has (x::r) 0 m↔x=some m:=by
 unfold Has
 rw [List.getElem?_cons_zero]
 exact ⟨fun z=>Option.some.inj z,fun z=>by rw [z]⟩
theorem Ay {x:Option Str} {r:Line} {i:Nat} {m:Str}:Has (x::r) (i+1) m↔Has r i m:=by unfold Has; rw [List.getElem?_cons_succ]
theorem Xn {x:Option Str} {r:Line} (h:ND (x::r)):ND r∧∀ i m,x=some m->¬ Has r i m:=
 ⟨fun i j m a b=>Nat.succ.inj (h (i+1) (j+1) m (Ay.mpr a) (Ay.mpr b)),fun i m e z=>by have:=h 0 (i+1) m (Bf.mpr e) (Ay.mpr z); omega⟩
def Cw (S:BS) (L:Line):Prop:=∀ i m,Has L i m->∃ e,A1 S.ents m=some e
theorem Ed {S:BS}:∀ {L:Line} {c:Str} {i:Nat} {m:Str},Has (Cu S c L) i m->m=c∨∃ j,Has L j m
 | [],c,i,m,h=>by
   have h:Has [some c] i m:=h
   cases i with
   | zero=>exact .inl (Option.some.inj (Bf.mp h)).symm
   | succ i=>simp [Has] at h
 | none::r,c,i,m,h=>by
   have h:Has (some c::r) i m:=h
   cases i with
   | zero=>exact .inl (Option.some.inj (Bf.mp h)).symm
   | succ i=>exact .inr ⟨i+1,Ay.mpr (Ay.mp h)⟩
 | some t::r,c,i,m,h=>by
   unfold Cu at h
   by_cases e:HT.A7 (Bd S t) (Bd S c)=true
   ·rw [if_pos e] at h
    cases i with
    | zero=>exact .inl (Option.some.inj (Bf.mp h)).symm
    | succ i=>
      rcases Ed (Ay.mp h) with z | ⟨j,z⟩
      ·exact .inr ⟨0,Bf.mpr (by rw [z])⟩
      ·exact .inr ⟨j+1,Ay.mpr z⟩
   ·rw [if_neg e] at h
    cases i with
    | zero=>exact .inr ⟨0,Bf.mpr (Bf.mp h)⟩
    | succ i=>
      rcases Ed (Ay.mp h) with z | ⟨j,z⟩
      ·exact .inl z
      ·exact .inr ⟨j+1,Ay.mpr z⟩
theorem Zc {S:BS} {L:Line} {n:Str} {i:Nat} {m:Str} (h:Has (C4 S n L) i m):m=n∨∃ j,Has L j m:=by
 match L,h with
 | [],h=>
   have h:Has [some n] i m:=h
   cases i with
   | zero=>exact .inl (Option.some.inj (Bf.mp h)).symm
   | succ i=>simp [Has] at h
 | none::r,h=>
   have h:Has (some n::r) i m:=h
   cases i with
   | zero=>exact .inl (Option.some.inj (Bf.mp h)).symm
   | succ i=>exact .inr ⟨i+1,Ay.mpr (Ay.mp h)⟩
 | some t::r,h=>
   have h:Has (some n::Cu S t r) i m:=h
   cases i with
   | zero=>exact .inl (Option.some.inj (Bf.mp h)).symm
   | succ i=>
     rcases Ed (Ay.mp h) with z | ⟨j,z⟩
     ·exact .inr ⟨0,Bf.mpr (by rw [z])⟩
     ·exact .inr ⟨j+1,Ay.mpr z⟩
theorem Gy {S:BS}:∀ {L:Line} {c:Str},ND L->(∀ i,¬ Has L i c)->ND (Cu S c L)
 | [],c,_,_=>fun i j m a b=>by
   have a:Has [some c] i m:=a
   have b:Has [some c] j m:=b
   have:=Jc a
   have:=Jc b
   simp only [List.length_singleton] at *
   omega
 | none::r,c,nd,hc=>by
   show ND (some c::r)
   intro i j m a b
   cases i with
   | zero=>
     cases j with
     | zero=>rfl
     | succ j=>exact absurd (show Has (none::r) (j+1) c from by rw [Option.some.inj (Bf.mp a)]; exact Ay.mpr (Ay.mp b)) (hc (j+1))
   | succ i=>
     cases j with
     | zero=>exact absurd (show Has (none::r) (i+1) c from by rw [Option.some.inj (Bf.mp b)]; exact Ay.mpr (Ay.mp a)) (hc (i+1))
     | succ j=>exact nd (i+1) (j+1) m (Ay.mpr (Ay.mp a)) (Ay.mpr (Ay.mp b))
 | some t::r,c,nd,hc=>by
   obtain ⟨nr,nt⟩:=Xn nd
   have hct:c≠t:=fun z=>hc 0 (Bf.mpr (by rw [z]))
   unfold Cu
   by_cases e:HT.A7 (Bd S t) (Bd S c)=true
   ·rw [if_pos e]
    have n2:=Gy (S:=S) nr (c:=t) fun i z=>nt i t rfl z
    have no:∀ i,¬ Has (Cu S t r) i c:=fun i z=>by
     rcases Ed z with y | ⟨j,y⟩
     ·exact hct y
     ·exact hc (j+1) (Ay.mpr y)
    intro i j m a b
    cases i with
    | zero=>
      cases j with
      | zero=>rfl
      | succ j=>exact absurd (by rw [Option.some.inj (Bf.mp a)]; exact Ay.mp b) (no j)
    | succ i=>
      cases j with
      | zero=>exact absurd (by rw [Option.some.inj (Bf.mp b)]; exact Ay.mp a) (no i)
      | succ j=>exact congrArg _ (n2 i j m (Ay.mp a) (Ay.mp b))
   ·rw [if_neg e]
    have n2:=Gy (S:=S) nr (c:=c) fun i z=>hc (i+1) (Ay.mpr z)
    have no:∀ i,¬ Has (Cu S c r) i t:=fun i z=>by
     rcases Ed z with y | ⟨j,y⟩
     ·exact hct y.symm
     ·exact nt j t rfl y
    intro i j m a b
    cases i with
    | zero=>
      cases j with
      | zero=>rfl
      | succ j=>exact absurd (by rw [Option.some.inj (Bf.mp a)]; exact Ay.mp b) (no j)
    | succ i=>
      cases j with
      | zero=>exact absurd (by rw [Option.some.inj (Bf.mp b)]; exact Ay.mp a) (no i)
      | succ j=>exact congrArg _ (n2 i j m (Ay.mp a) (Ay.mp b))
theorem dB {S:BS} {L:Line} {n:Str} (nd:ND L) (hn:∀ i,¬ Has L i n):ND (C4 S n L):=by
 match L,nd,hn with
 | [],nd,hn=>exact Gy (S:=S) (c:=n) nd hn
 | none::r,nd,hn=>exact Gy (S:=S) (c:=n) nd hn
 | some t::r,nd,hn=>
   obtain ⟨nr,nt⟩:=Xn nd
   have hct:n≠t:=fun z=>hn 0 (Bf.mpr (by rw [z]))
   have n2:=Gy (S:=S) nr (c:=t) fun i z=>nt i t rfl z
   have no:∀ i,¬ Has (Cu S t r) i n:=fun i z=>by
    rcases Ed z with y | ⟨j,y⟩
    ·exact hct y
    ·exact hn (j+1) (Ay.mpr y)
   show ND (some n::Cu S t r)
   intro i j m a b
   cases i with
   | zero=>
     cases j with
     | zero=>rfl
     | succ j=>exact absurd (by rw [Option.some.inj (Bf.mp a)]; exact Ay.mp b) (no j)
   | succ i=>
     cases j with
     | zero=>exact absurd (by rw [Option.some.inj (Bf.mp b)]; exact Ay.mp a) (no i)
     | succ j=>exact congrArg _ (n2 i j m (Ay.mp a) (Ay.mp b))
end Lk

namespace Lk
open PySem L2
abbrev sRow:Stmt:=top 20
abbrev Ri:Stmt:=inClass sRow 0
abbrev Jq:Stmt:=inClass sRow 1
abbrev Rj:Stmt:=inClass sRow 2
abbrev Rh:Stmt:=inClass sRow 3
abbrev Vh:Stmt:=inClass sRow 4
abbrev T4:Stmt:=inClass sRow 5
abbrev Rk:Stmt:=inClass sRow 6
abbrev Rn:Stmt:=inClass sRow 7
abbrev Nt:Stmt:=inClass sRow 8
abbrev Rc:Stmt:=inClass sRow 9
abbrev Vl:Stmt:=inClass sRow 10
abbrev Nw:Stmt:=inClass sRow 11
abbrev Vj:Stmt:=inClass sRow 12
structure RoS where
 line:Line
 met:List (Int×Int)
def optS:Option Str->V
 | some n=>.str n
 | none=>.non
abbrev Bc (L:Line):List V:=L.map optS
def tabM (m:List (Int×Int)):List (Key×V):=m.map fun x=>(Sum.inl x.1,.int x.2)
structure RowOn (ln ma:Addr) (t:RoS) (H:Hp):Prop where
 li:H ln=some (.lst (Bc t.line))
 mt:H ma=some (.dK (tabM t.met))
 few:t.line.length≤1000
 fm:t.met.length≤1000
def rowK (C p dc dl ln ma:Addr):Kd RoS:=⟨C,p,dc,dl,fun t=>[("line",.ref ln),("met_at",.ref ma)],RowOn ln ma,fun b=>b=p∨b=dc∨b=dl∨b=ln∨b=ma⟩
structure X1 (C:Addr) (κ:Kd RoS) (p dc dl ln ma:Addr):Prop where
 eq:κ=rowK C p dc dl ln ma
 n0:dc≠dl
 n1:ln≠p∧ln≠dc∧ln≠dl
 n2:ma≠p∧ma≠dc∧ma≠dl
 n3:ln≠ma
def rows (C:Addr):Objs RoS C where
 is:=fun κ=>∃ p dc dl ln ma,X1 C κ p dc dl ln ma
 ok:=by
  rintro κ ⟨p,dc,dl,ln,ma,rfl,n0,n1,n2,n3⟩
  refine ⟨.inl rfl,.inr (.inl rfl),.inr (.inr (.inl rfl)),n0,fun _=>by show 2≤100; decide,fun t m hm=>?_,fun t H H' h k kt=>?_⟩
  ·show List.lookup m [(("line":Str),V.ref ln),("met_at",V.ref ma)]=none
   have h1:(m==("line":Str))=false:=beq_eq_false_iff_ne.mpr fun z=>hm (by rw [z]; simp [Fv])
   have h2:(m==("met_at":Str))=false:=beq_eq_false_iff_ne.mpr fun z=>hm (by rw [z]; simp [Fv])
   rw [List.lookup_cons,h1,List.lookup_cons,h2,List.lookup_nil]
  ·obtain ⟨a,b,c,d⟩:=h
   exact ⟨k _ _ a (.inr (.inr (.inr (.inl rfl)))) n1.1 n1.2.1 n1.2.2,k _ _ b (.inr (.inr (.inr (.inr rfl)))) n2.1 n2.2.1 n2.2.2,c,d⟩
 cls:=by
  rintro κ ⟨p,dc,dl,ln,ma,rfl,_⟩
  rfl
structure RTxt (K:PySem.W.Frag) (C:Addr):Prop extends BTxt K C where
 s1:Ct K C "line"
 s2:Ct K C "met_at"
section
variable {S:BS} {dc dl:Addr} {x y:V}
theorem Cq:(Bm S dc dl [("line",x),("met_at",y)]).lookup ("line":Str)=some x:=rfl
theorem Mu:(Bm S dc dl [("line",x),("met_at",y)]).lookup ("met_at":Str)=some y:=rfl
end
theorem P4 (L:Line):(Bc L).all Cv=true:=by
 rw [List.all_eq_true]
 intro x hx
 obtain ⟨n,_,rfl⟩:=List.mem_map.mp hx
 cases n <;> rfl
theorem Sw {x:Option Str} {n:Str}:eqV (optS x) (.str n)=decide (x=some n):=by
 cases x with
 | none=>rw [decide_eq_false (by simp)]; rfl
 | some m=>
   show (m==n)=_
   by_cases e:m=n
   ·rw [e,decide_eq_true rfl]; simp
   ·rw [decide_eq_false (fun z=>e (Option.some.inj z))]; simp [e]
theorem dJ {L:Line} {n:Str}:inV (.str n) (Bc L)=(Da L n).isSome:=by
 unfold inV Da
 rw [List.findIdx?_isSome]
 show (L.map optS).any _=_
 rw [List.any_map]
 refine congrArg (fun f=>List.any L f) (funext fun x=>?_)
 exact Sw
def K0 (L:Line) (n:Str):V:=match Da L n with
 | some i=>.int ((i+1:Nat):Int)
 | none=>.non
section
variable {P:Program} {w:World} {K:PySem.W.Frag} {mg:Str->Option Value} {base:Heap} {C:Addr}
theorem Ah.setLine {κ:Kd RoS} {S:BS} {t:RoS} {H:Hp} {p dc dl ln ma:Addr} (B:Ah κ S t H) (h:X1 C κ p dc dl ln ma) (L:Line) (few:L.length≤1000):Ah κ S {t with line:=L} (upd H ln (.lst (Bc L))):=by
 obtain ⟨rfl,n0,n1,n2,n3⟩:=h
 obtain ⟨⟨dx,h1⟩,h2,h3,h4,h5⟩:=B
 obtain ⟨g1,g2,g3,g4⟩:=h4
 refine ⟨⟨dx,?_⟩,?_,?_,⟨Ag,?_,few,g4⟩,Ei h5 (by intro xs z; cases z)⟩
 ·show upd H ln _ p=_; rw [Ae (Ne.symm n1.1)]; exact h1
 ·show upd H ln _ dc=_; rw [Ae (Ne.symm n1.2.1)]; exact h2
 ·show upd H ln _ dl=_; rw [Ae (Ne.symm n1.2.2)]; exact h3
 ·show upd H ln _ ma=_; rw [Ae (Ne.symm n3)]; exact g2
theorem Ah.setMet {κ:Kd RoS} {S:BS} {t:RoS} {H:Hp} {p dc dl ln ma:Addr} (B:Ah κ S t H) (h:X1 C κ p dc dl ln ma) (m:List (Int×Int)) (few:m.length≤1000):Ah κ S {t with met:=m} (upd H ma (.dK (tabM m))):=by
 obtain ⟨rfl,n0,n1,n2,n3⟩:=h
 obtain ⟨⟨dx,h1⟩,h2,h3,h4,h5⟩:=B
 obtain ⟨g1,g2,g3,g4⟩:=h4
 refine ⟨⟨dx,?_⟩,?_,?_,⟨?_,Ag,g3,few⟩,Ei h5 (by intro xs z; cases z)⟩
 ·show upd H ma _ p=_; rw [Ae (Ne.symm n2.1)]; exact h1
 ·show upd H ma _ dc=_; rw [Ae (Ne.symm n2.2.1)]; exact h2
 ·show upd H ma _ dl=_; rw [Ae (Ne.symm n2.2.2)]; exact h3
 ·show upd H ma _ ln=_; rw [Ae n3]; exact g1
def Jn (C:Addr):Sp:=fun vs H Q _=>∃ (κ:Kd RoS) (S:BS) (t:RoS) (n:Str),(rows C).is κ∧vs=[.ref κ.p,.str n]∧Ah κ S t H∧Q (K0 t.line n) H
theorem aW:Al ["self","name"] ["self","name"] (defScope Rc):=⟨rfl,rfl,rfl,by decide +kernel,rfl,by decide +kernel,by decide +kernel⟩
theorem Yo {f:Addr} (F:FunB K "spot_of" "Row.spot_of" Rc f ["self","name"]) (T:RTxt K C):FnP P w K mg base 1 f ["self","name"] (Jn C):=by
 refine F.ok aW (fun vs H Q E h=>?_) (fun cdv A outer s H vs Q E hr h=>?_)
 ·obtain ⟨κ,S,t,n,_,rfl,_⟩:=h
  rfl
 ·obtain ⟨κ,S,t,n,⟨p,dc,dl,ln,ma,rfl,n0,n1,n2,n3⟩,rfl,B,k⟩:=h
  obtain ⟨dx,h1⟩:=id B.ob
  obtain ⟨g1,g2,g3,g4⟩:=id B.ex
  refine ⟨_,Ad (Az (Ar Yl (pv 1) (Ax (pv 0) rfl) rfl) (Af (As (Ai Bj (Pw PySem.F.plainAttrs_list PySem.F.slot_list_index PySem.F.type_list_index dC (Ax (pv 0) rfl) (Aa (pv 1) Ac)) Ab))) Av)
   (Af (As D0)),?_⟩
  refine ⟨_,rfl,_,rfl,p,C,dx,_,_,rfl,h1,T.cl,T.s1,Cq,ln,_,rfl,.inl (SqL.of g1),rfl,P4 _,_,rfl,?_⟩
  rw [if_neg Bool.false_ne_true,dJ]
  unfold K0 at k
  cases e:Da t.line n with
  | none=>
    rw [e] at k
    exact iteF k
  | some i=>
    rw [e] at k
    obtain ⟨hi,hb⟩:=Do e
    have hil:=Jc hi
    refine iteT ?_
    refine ⟨_,rfl,p,C,dx,_,_,rfl,h1,T.cl,T.s1,Cq,.inl ⟨rfl,_,SqL.of g1⟩,_,rfl,ln,_,.str n,i,rfl,rfl,g1,rfl,P4 _,by rw [List.length_map]; exact hil,fun z hz=>?_,fun m z hm hz=>?_,_,_,rfl,rfl,?_⟩
    ·rw [List.getElem?_map,show t.line[i]?=some (some n) from hi] at hz
     cases hz
     rw [Sw]; exact decide_eq_true rfl
    ·rw [List.getElem?_map] at hz
     cases q:t.line[m]? with
     | none=>rw [q] at hz; cases hz
     | some x=>
       rw [q] at hz
       cases hz
       rw [Sw]
       refine decide_eq_false fun y=>hb m hm ?_
       show t.line[m]?=_
       rw [q,y]
    ·have e2:((i:Int)+1)=((i+1:Nat):Int):=by push_cast; rfl
     show Q (.int ((i:Int)+1)) H
     rw [e2]
     exact k
def Lz (C:Addr):Sp:=fun vs H Q _=>∃ (κ:Kd RoS) (S:BS) (t:RoS) (i:Nat),(rows C).is κ∧vs=[.ref κ.p,.int ((i+1:Nat):Int)]∧Ah κ S t H∧i<t.line.length∧∀ H',Ah κ S {t with line:=trim (t.line.set i none)} H'->Fr κ H H'->Q .non H'
theorem fN:Al ["self","spot"] ["self","spot"] (defScope Vl):=⟨rfl,rfl,rfl,by decide +kernel,rfl,by decide +kernel,by decide +kernel⟩
theorem cX {f:Addr} (F:FunB K "leave" "Row.leave" Vl f ["self","spot"]) (T:RTxt K C):FnP P w K mg base 1 f ["self","spot"] (Lz C):=by
 refine F.ok fN (fun vs H Q E h=>?_) (fun cdv A outer s H vs Q E hr h=>?_)
 ·obtain ⟨κ,S,t,i,_,rfl,_⟩:=h
  rfl
 ·obtain ⟨κ,S,t,i,hκ,rfl,B,hi,k⟩:=h
  have O:=(rows C).ok κ hκ
  obtain ⟨p,dc,dl,ln,ma,hI⟩:=id hκ
  obtain ⟨rfl,n0,n1,n2,n3⟩:=id hI
  obtain ⟨dx,h1⟩:=id B.ob
  obtain ⟨g1,g2,g3,g4⟩:=id B.ex
  refine ⟨_,Ad (Vo D0 (Vp (Ax (pv 0) rfl) (Ai Kp (pv 1) Ab) Nh))
   (Af (T9 PassesOwn.never (PW.pt (N0 (bS (Ax (pv 0) rfl) (fun _=>rfl)) (Ju (Ar Rx (B7 Bq (Ax (pv 0) rfl) (pe_un iS Ab) (fun _ _=>rfl)) D0 (Au _)))))
     (Af (Ak (cB PySem.F.plainAttrs_list PySem.F.slot_list_pop PySem.F.type_list_pop kA (Ax (pv 0) rfl)))))),?_⟩
  have e1:((i+1:Nat):Int) - 1=(i:Int):=by push_cast; omega
  refine ⟨_,rfl,p,C,dx,_,_,rfl,h1,T.cl,T.s1,Cq,_,rfl,_,_,rfl,rfl,ln,_,_,i,rfl,rfl,g1,?_,?_⟩
  ·rw [e1,List.length_map]
   unfold ixN
   rw [if_pos (by omega),if_pos (by omega)]
   rfl
  have es:(Bc t.line).set i .non=Bc (t.line.set i none):=by
   unfold Bc
   rw [List.map_set]
   rfl
  rw [es]
  have B1:Ah (rowK C p dc dl ln ma) S {t with line:=t.line.set i none} (upd H ln (.lst (Bc (t.line.set i none)))):=B.setLine hI (t.line.set i none) (by rw [List.length_set]; exact g3)
  have F1:Fr (rowK C p dc dl ln ma) H (upd H ln (.lst (Bc (t.line.set i none)))):=Fr.upd O (.inr (.inr (.inr (.inl rfl))))
  generalize upd H ln (.lst (Bc (t.line.set i none)))=H1 at B1 F1 ⊢
  refine ⟨fun q σ H2=>σ=[some (.ref p),some (.int ((i+1:Nat):Int))]∧∃ L:Line,q=L.length∧trim L=trim (t.line.set i none)∧Ah (rowK C p dc dl ln ma) S {t with line:=L} H2∧Fr (rowK C p dc dl ln ma) H H2,⟨_,rfl,t.line.set i none,rfl,rfl,B1,F1⟩,?_⟩
  rintro q σ H2 ⟨rfl,L,rfl,hL,B2,F2⟩
  obtain ⟨dx2,b1⟩:=id B2.ob
  obtain ⟨c1,c2,c3,c4⟩:=id B2.ex
  refine ⟨_,rfl,p,C,dx2,_,_,rfl,b1,T.cl,T.s1,Cq,_,.inl ⟨_,SqL.of c1,rfl⟩,?_⟩
  by_cases hne:L=[]
  ·subst hne
   refine iteF ?_
   refine iteF ?_
   refine k H2 ?_ F2
   rw [← hL]
   exact B2
  ·obtain ⟨L0,x,rfl⟩:∃ L0 x,L=L0++[x]:=⟨L.dropLast,L.getLast hne,(List.dropLast_concat_getLast hne).symm⟩
   have hem:(!(Bc (L0++[x])).isEmpty)=true:=by simp
   rw [hem]
   refine iteT ?_
   have hat:atI (Bc (L0++[x])) (-1)=some (optS x):=by
    unfold atI ixN
    have hl:(Bc (L0++[x])).length=L0.length+1:=by rw [List.length_map,List.length_append]; rfl
    rw [hl,if_neg (by decide),if_pos (by omega)]
    show (Bc (L0++[x]))[(-1+((L0.length+1:Nat):Int)).toNat]?=_
    rw [show (-1+((L0.length+1:Nat):Int)).toNat=L0.length by omega]
    unfold Bc
    rw [List.getElem?_map,List.getElem?_append_right (Nat.le_refl _),Nat.sub_self]
    rfl
   refine ⟨_,rfl,p,C,dx2,_,_,rfl,b1,T.cl,T.s1,Cq,_,rfl,ln,_,_,_,rfl,rfl,SqL.of c1,hat,rfl,_,rfl,?_⟩
   cases x with
   | none=>
     refine iteT ?_
     refine ⟨fun σ' H'=>σ'=[some (.ref p),some (.int ((i+1:Nat):Int))]∧Ah (rowK C p dc dl ln ma) S {t with line:=L0} H'∧Fr (rowK C p dc dl ln ma) H H',?_,?_⟩
     ·rintro σ' H' ⟨rfl,b,f⟩
      exact ⟨L0.length,by simp,rfl,L0,rfl,by rw [← hL,M5],b,f⟩
     ·refine ⟨_,rfl,p,C,dx2,_,_,rfl,b1,T.cl,T.s1,Cq,.inl ⟨rfl,_,SqL.of c1⟩,ln,_,.non,rfl,rfl,c1,by simp [optS],rfl,?_,?_⟩
      ·have e3:(Bc (L0++[none])).dropLast=Bc L0:=by unfold Bc; rw [List.map_append]; simp
       rw [e3]
       have c3':L0.length≤1000:=by
        have:(L0++[none]).length≤1000:=c3
        rw [List.length_append] at this
        omega
       exact B2.setLine hI L0 c3'
      ·exact F2.trans (Fr.upd O (.inr (.inr (.inr (.inl rfl)))))
   | some m=>
     refine iteF ?_
     refine k H2 ?_ F2
     rw [← hL,M0]
     exact B2
def Df:Int->Str->Int->RoS->RoS:=fun _ n _ t=>{t with line:=rmv t.line n}
theorem Xb:Al ["self","name","last","spot"] ["self","name","last"] (defScope Vj):=⟨rfl,rfl,rfl,by decide +kernel,rfl,by decide +kernel,by decide +kernel⟩
theorem cP {f gs gl:Addr} (F:FunB K "fade" "Row.fade" Vj f ["self","name","last"]) (T:RTxt K C) (Gs:FnP P w K mg base 1 gs ["self","name"] (Jn C)) (Ms:Meth K C "spot_of" gs) (Gl:FnP P w K mg base 1 gl ["self","spot"] (Lz C)) (Ml:Meth K C "leave" gl):FnP P w K mg base 8 f ["self","name","last"] (Q4 (rows C) Df):=by
 refine F.ok Xb (fun vs H Q E h=>?_) (fun cdv A outer s H vs Q E hr h=>?_)
 ·obtain ⟨κ,S,t,n,l,_,rfl,_⟩:=h
  rfl
 ·obtain ⟨κ,S,t,n,l,hκ,rfl,B,k⟩:=h
  have hC:=(rows C).cls κ hκ
  have O:=(rows C).ok κ hκ
  obtain ⟨dx,h1⟩:=id B.ob
  rw [hC] at h1
  refine ⟨_,Ad (A3 (i:=3) Xb.nd rfl (Or.inl rfl) (Aw (pv 0) T.cl Ms Gs (hr.mono (by decide)) (Aa (pv 1) Ac)))
   (Af (Az (Ar Mo (pv 3) D0 (Au _)) (Af (Ak (Aw (pv 0) T.cl Ml Gl (hr.mono (by decide)) (Aa (pv 3) Ac)))) Av)),?_⟩
  refine ⟨_,rfl,κ.p,dx,_,rfl,h1,B.fno O (by decide +kernel) (by decide +kernel),_,rfl,κ,S,t,n,hκ,rfl,B,?_⟩
  unfold K0
  cases e:Da t.line n with
  | none=>
    refine ⟨_,rfl,rfl,_,rfl,?_⟩
    refine iteF ?_
    refine k H ?_ Fr.refl
    unfold Df rmv
    rw [e]
    exact B
  | some i=>
    refine ⟨_,rfl,rfl,_,rfl,?_⟩
    refine iteT ?_
    refine ⟨_,rfl,κ.p,dx,_,rfl,h1,B.fno O (by decide +kernel) (by decide +kernel),_,rfl,κ,S,t,i,hκ,rfl,B,Jc (Do e).1,fun H' B' F'=>k H' ?_ F'⟩
    unfold Df rmv
    rw [e]
    exact B'
end
end Lk

namespace Lk
open PySem L2
theorem gE {X:Cx} {K:PySem.W.Frag} {e:Expr} {f:Str} {pos:Pos} {ta:TE} (h:X.K=K) (he:PE X e ta) (hb:attributeBase e f X.env (eval e X.env)=eval e X.env):PE X (.Attribute e f pos) (tFld K ta f):=h ▸ Ax he hb
def getM (m:List (Int×Int)) (s:Int):Int:=((m.find? fun x=>decide (x.1=s)).map (·.2)).getD 0
def putM (m:List (Int×Int)) (s v:Int):List (Int×Int):=if s∈m.map (·.1) then m.map (fun x=>if x.1=s then (x.1,v) else x) else m++[(s,v)]
def incM (m:List (Int×Int)) (s:Int):List (Int×Int):=putM m s (getM m s+1)
theorem Ke {s:Int}:∀ {m:List (Int×Int)},valV (tabM m) (Sum.inl s:Key)=(m.find? fun x=>decide (x.1=s)).map fun x=>.int x.2
 | []=>rfl
 | x::r=>by
   by_cases h:x.1=s
   ·rw [List.find?_cons,decide_eq_true h]
    exact Ev (p:=((Sum.inl x.1,.int x.2):Key×V)) (congrArg Sum.inl h)
   ·rw [List.find?_cons,decide_eq_false h]
    exact (Ew (p:=((Sum.inl x.1,.int x.2):Key×V)) (fun z=>h (Sum.inl.inj z))).trans Ke
theorem dP {m:List (Int×Int)} {s:Int}:(valV (tabM m) (Sum.inl s:Key)).getD (.int 0)=.int (getM m s):=by
 rw [Ke]
 unfold getM
 cases m.find? fun x=>decide (x.1=s) <;> rfl
theorem O4 {s:Int}:∀ {m:List (Int×Int)},((tabM m).any fun kv=>decide (kv.1=(Sum.inl s:Key)))=true↔s∈m.map (·.1)
 | []=>by simp [tabM]
 | x::r=>by
   rw [show tabM (x::r)=(Sum.inl x.1,.int x.2)::tabM r from rfl,List.any_cons,Bool.or_eq_true,O4,List.map_cons,List.mem_cons]
   refine or_congr ⟨fun h=>(Sum.inl.inj (of_decide_eq_true h)).symm,fun h=>decide_eq_true (by rw [h])⟩ Iff.rfl
theorem Yj {m:List (Int×Int)} {s v:Int}:putK (tabM m) (Sum.inl s:Key) (.int v)=tabM (putM m s v):=by
 unfold putK putM
 by_cases h:s∈m.map (·.1)
 ·rw [if_pos (O4.mpr h),if_pos h]
  unfold tabM
  rw [List.map_map,List.map_map]
  refine List.map_congr_left fun x _=>?_
  show (if (Sum.inl x.1:Key)=Sum.inl s then ((Sum.inl x.1,V.int v):Key×V) else (Sum.inl x.1,V.int x.2))=(Sum.inl (if x.1=s then (x.1,v) else x).1,V.int (if x.1=s then (x.1,v) else x).2)
  by_cases e:x.1=s
  ·rw [if_pos e,if_pos (congrArg Sum.inl e)]
  ·rw [if_neg e,if_neg fun z=>e (Sum.inl.inj z)]
 ·rw [if_neg (fun z=>h (O4.mp z)),if_neg h]
  unfold tabM
  rw [List.map_append]
  rfl
theorem Pt {m:List (Int×Int)} {s v:Int}:(putM m s v).map (·.1)=if s∈m.map (·.1) then m.map (·.1) else m.map (·.1)++[s]:=by
 unfold putM
 by_cases h:s∈m.map (·.1)
 ·rw [if_pos h,if_pos h,List.map_map]
  refine List.map_congr_left fun x _=>?_
  show (if x.1=s then (x.1,v) else x).1=x.1
  by_cases e:x.1=s
  ·rw [if_pos e]
  ·rw [if_neg e]
 ·rw [if_neg h,if_neg h,List.map_append]
  rfl
theorem T8 {m:List (Int×Int)} {s v:Int}:(putM m s v).length≤m.length+1:=by
 have:=congrArg List.length (Pt (m:=m) (s:=s) (v:=v))
 rw [List.length_map] at this
 rw [this]
 by_cases h:s∈m.map (·.1)
 ·rw [if_pos h,List.length_map]; omega
 ·rw [if_neg h,List.length_append,List.length_map]; exact Nat.le_refl _
def sumM (m:List (Int×Int)) (p:Int):Int:=((m.filter fun x=>decide (x.1≤p)).map (·.2)).sum
theorem Ex (x:Int×Int) (r:List (Int×Int)) (p:Int):sumM (x::r) p=(if x.1≤p then x.2 else 0)+sumM r p:=by
 unfold sumM
 rw [List.filter_cons]
 by_cases h:x.1≤p
 ·rw [decide_eq_true h,if_pos rfl,if_pos h,List.map_cons,List.sum_cons]
 ·rw [decide_eq_false h,if_neg Bool.false_ne_true,if_neg h,Int.zero_add]
theorem Qc (x:Int×Int) (r:List (Int×Int)) (s:Int):getM (x::r) s=if x.1=s then x.2 else getM r s:=by
 unfold getM
 rw [List.find?_cons]
 by_cases h:x.1=s
 ·rw [decide_eq_true h,if_pos h]; rfl
 ·rw [decide_eq_false h,if_neg h]
theorem Qb {s:Int}:∀ {m:List (Int×Int)},s∉m.map (·.1)->getM m s=0
 | [],_=>rfl
 | x::r,h=>by
   rw [Qc,if_neg (fun z=>h (by rw [List.map_cons,z]; exact List.mem_cons_self)),Qb fun z=>h (List.mem_cons_of_mem _ z)]
theorem aE (m:List (Int×Int)) (s v p:Int):sumM (m++[(s,v)]) p=sumM m p+if s≤p then v else 0:=by
 induction m with
 | nil=>
   rw [List.nil_append,Ex]
   show _+sumM [] p=sumM [] p+_
   show (if s≤p then v else 0)+0=0+_
   omega
 | cons x r ih=>rw [List.cons_append,Ex,Ex,ih]; omega
theorem Tl {s v p:Int}:∀ {m:List (Int×Int)},(m.map (·.1)).Nodup->s∈m.map (·.1)->sumM (m.map fun x=>if x.1=s then (x.1,v) else x) p=sumM m p+if s≤p then v - getM m s else 0
 | [],_,h=>by simp at h
 | x::r,nd,h=>by
   obtain ⟨n1,n2⟩:=List.nodup_cons.mp nd
   have other:∀ {l:List (Int×Int)},s∉l.map (·.1)->(l.map fun x=>if x.1=s then (x.1,v) else x)=l:=by
    intro l
    induction l with
    | nil=>intro _; rfl
    | cons y q ih=>
      intro hl
      rw [List.map_cons,if_neg (fun z=>hl (by rw [List.map_cons,z]; exact List.mem_cons_self)),ih fun z=>hl (List.mem_cons_of_mem _ z)]
   rw [List.map_cons,Ex,Ex,Qc]
   by_cases e:x.1=s
   ·rw [if_pos e,if_pos e,other (by rw [← e]; exact n1)]
    show (if x.1≤p then v else 0)+_=_
    rw [e]
    by_cases hp:s≤p
    ·rw [if_pos hp,if_pos hp,if_pos hp]; omega
    ·rw [if_neg hp,if_neg hp,if_neg hp]; omega
   ·rw [if_neg e,if_neg e]
    have hr:s∈r.map (·.1):=by
     rcases List.mem_cons.mp h with z | z
     ·exact absurd z.symm e
     ·exact z
    rw [Tl n2 hr]
    omega
theorem aD {m:List (Int×Int)} {s p:Int} (nd:(m.map (·.1)).Nodup):sumM (incM m s) p=sumM m p+if s≤p then 1 else 0:=by
 unfold incM putM
 by_cases h:s∈m.map (·.1)
 ·rw [if_pos h,Tl nd h]
  by_cases hp:s≤p
  ·rw [if_pos hp,if_pos hp]; omega
  ·rw [if_neg hp,if_neg hp]
 ·rw [if_neg h,aE,Qb h]
  rfl
theorem Vn {m:List (Int×Int)} {s v:Int} (nd:(m.map (·.1)).Nodup):((putM m s v).map (·.1)).Nodup:=by
 rw [Pt]
 by_cases h:s∈m.map (·.1)
 ·rw [if_pos h]; exact nd
 ·rw [if_neg h,List.nodup_append]
  exact ⟨nd,by simp,fun a ha b hb z=>h (by rw [List.mem_singleton.mp hb] at z; rw [← z]; exact ha)⟩
section
variable {P:Program} {w:World} {K:PySem.W.Frag} {mg:Str->Option Value} {base:Heap} {C:Addr}
def Pp (C:Addr):Sp:=fun vs H Q _=>∃ (κ:Kd RoS) (S:BS) (t:RoS) (n:Str),(rows C).is κ∧vs=[.ref κ.p,.str n]∧Ah κ S t H∧Cw S t.line∧t.line.length<1000∧∀ H',Ah κ S {t with line:=C4 S n t.line} H'->Fr κ H H'->Q .non H'
theorem Ec:Al ["self","name","coming","at","there"] ["self","name"] (defScope Nw):=⟨rfl,rfl,rfl,by decide +kernel,rfl,by decide +kernel,by decide +kernel⟩
def goL (S:BS) (n:Str) (i:Nat) (c:Str) (R:Line):Line:=if i=0 then C4 S n R else Cu S c R
theorem V2 {f gs:Addr} (F:FunB K "bring_in" "Row.bring_in" Nw f ["self","name"]) (T:RTxt K C) (B:Blt mg) (Gs:FnP P w K mg base 1 gs ["self","name"] (E8 (rows C))) (Ms:Meth K C "strength" gs):FnP P w K mg base 3 f ["self","name"] (Pp C):=by
 refine F.ok Ec (fun vs H Q E h=>?_) (fun cdv A outer s H vs Q E hr h=>?_)
 ·obtain ⟨κ,S,t,n,_,rfl,_⟩:=h
  rfl
 ·obtain ⟨κ,S,t,n,hκ,rfl,B0,lin,few,k⟩:=h
  have O:=(rows C).ok κ hκ
  obtain ⟨p,dc,dl,ln,ma,hI⟩:=id hκ
  obtain ⟨rfl,n0,n1,n2,n3⟩:=id hI
  have hu':_<cLine:=Nat.lt_of_succ_lt (Dj hr)
  refine ⟨_,Ad (A3 (i:=2) Ec.nd rfl (Or.inl rfl) (pv 1))
   (Ad (A3 (i:=3) Ec.nd rfl (Or.inl rfl) Ab)
   (Ad (T9 PassesOwn.never (PW.pt (N0 (Ar K9 (pv 3) (Bi Dk rfl B.len PySem.boot_len (Aa (Ax (pv 0) rfl) Ac)) (Au _)) (Ju (Ar Mo (B7 Bq (Ax (pv 0) rfl) (pv 3) (fun _ _=>rfl)) D0 (Au _)))))
     (Ad (A3 (i:=4) Ec.nd rfl (Or.inl rfl) (B7 Bq (Ax (pv 0) rfl) (pv 3) (fun _ _=>rfl)))
     (Ad (Mh (Az (PW.pt (K8 (Ar Bo (pv 3) Ab (Au _)) (Iy (Ar (jQ hu') (Aw (pv 0) T.cl Ms Gs (hr.mono (by decide)) (Aa (pv 4) Ac)) (Aw (pv 0) T.cl Ms Gs (hr.mono (by decide)) (Aa (pv 2) Ac)) (Au _)))))
       (Ad (Vo (pv 2) (Vp (Ax (pv 0) rfl) (pv 3) Nh)) (Af (A3 (i:=2) Ec.nd rfl (Or.inl rfl) (pv 4)))) Av))
     (Af (jN (i:=3) Ec.nd rfl (Or.inl rfl) Ab kH)))))
   (Af (Az (Ar K9 (pv 3) (Bi Dk rfl B.len PySem.boot_len (Aa (Ax (pv 0) rfl) Ac)) (Au _)) (Af (Vo (pv 2) (Vp (Ax (pv 0) rfl) (pv 3) Nh)))
     (Af (Ak (Pw PySem.F.plainAttrs_list PySem.F.slot_list_append PySem.F.type_list_append Ks (Ax (pv 0) rfl) (Aa (pv 2) Ac)))))))),?_⟩
  refine ⟨_,rfl,?_⟩
  refine ⟨fun q σ H'=>∃ (D R:Line) (c:Str) (z:Option V),q=R.length∧σ=[some (.ref p),some (.str n),some (.str c),some (.int (D.length:Int)),z]∧Ah (rowK C p dc dl ln ma) S {t with line:=D++R} H'∧Fr (rowK C p dc dl ln ma) H H'∧(D.length=0->c=n)∧(D.length≠0->∃ e,A1 S.ents c=some e)∧D++goL S n D.length c R=C4 S n t.line∧Cw S R∧D.length+R.length=t.line.length,⟨_,[],t.line,n,none,rfl,rfl,B0,Fr.refl,fun _=>rfl,fun z=>absurd rfl z,rfl,lin,by simp⟩,?_⟩
  rintro q σ H1 ⟨D,R,c,z,rfl,rfl,B1,F1,hc0,hc1,hgo,hlR,hlen⟩
  obtain ⟨dx,h1⟩:=id B1.ob
  obtain ⟨g1,g2,g3,g4⟩:=id B1.ex
  have hlv:(Bc (D++R)).length=D.length+R.length:=by rw [List.length_map,List.length_append]
  refine ⟨_,rfl,_,rfl,p,C,dx,_,_,rfl,h1,T.cl,T.s1,Cq,ln,_,rfl,.inl (SqL.of g1),_,_,rfl,rfl,_,rfl,?_⟩
  rw [hlv]
  have setOk:∀ (H2:Hp) (x:Option Str) (R':Line) (c2:Str),R=x::R'->Ah (rowK C p dc dl ln ma) S {t with line:=D++R} H2->∃ j,ixN (Bc (D++R)).length (D.length:Int)=some j∧(Bc (D++R)).set j (.str c2)=Bc (D++some c2::R'):=fun H2 x R' c2 e _=>by
   subst e
   refine ⟨D.length,?_,?_⟩
   ·unfold ixN
    rw [hlv,if_pos (by omega),if_pos (by simp only [List.length_cons]; omega)]
    rfl
   ·unfold Bc
    rw [List.map_append,List.set_append_right _ _ (by rw [List.length_map]; exact Nat.le_refl _),List.length_map,Nat.sub_self,List.map_append]
    rfl
  match R,hgo,hlR,hlen,B1,g1,hlv,h1,g3,setOk with
  | [],hgo,hlR,hlen,B1,g1,hlv,h1,g3,setOk=>
    rw [decide_eq_false (show ¬ (D.length:Int)<((D.length+([]:Line).length:Nat):Int) by simp)]
    refine iteF ?_
    refine iteF ?_
    refine ⟨_,rfl,_,rfl,p,C,dx,_,_,rfl,h1,T.cl,T.s1,Cq,ln,_,rfl,.inl (SqL.of g1),_,_,rfl,rfl,_,rfl,?_⟩
    rw [hlv,decide_eq_false (show ¬ (D.length:Int)<((D.length+([]:Line).length:Nat):Int) by simp)]
    refine iteF ?_
    refine ⟨_,rfl,p,C,dx,_,_,rfl,h1,T.cl,T.s1,Cq,.inl ⟨rfl,_,SqL.of g1⟩,_,rfl,ln,_,_,rfl,rfl,g1,Nat.lt_of_le_of_lt (show (Bc (D++[])).length≤1000 by rw [List.length_map]; exact g3) (by decide),?_⟩
    have e1:Bc (D++[])++[V.str c]=Bc (C4 S n t.line):=by
     rw [← hgo]
     unfold goL Bc
     rw [List.append_nil,List.map_append]
     by_cases e:D.length=0
     ·rw [if_pos e,hc0 e]; rfl
     ·rw [if_neg e]; rfl
    rw [e1]
    have hl2:(C4 S n t.line).length≤1000:=by
     have:=congrArg List.length e1
     rw [List.length_append,List.length_map,List.length_map,List.length_append] at this
     have h0:([V.str c]:List V).length=1:=rfl
     have h9:([]:Line).length=0:=rfl
     omega
    exact k _ (B1.setLine hI (C4 S n t.line) hl2) (F1.trans (Fr.upd O (.inr (.inr (.inr (.inl rfl))))))
  | none::R',hgo,hlR,hlen,B1,g1,hlv,h1,g3,setOk=>
    have hlt:(D.length:Int)<((D.length+(none::R':Line).length:Nat):Int):=by simp only [List.length_cons]; omega
    have hat:atI (Bc (D++none::R')) (D.length:Int)=some .non:=D8 (by unfold Bc; rw [List.getElem?_map,List.getElem?_append_right (Nat.le_refl _),Nat.sub_self]; rfl)
    rw [decide_eq_true hlt]
    refine iteT ?_
    refine ⟨_,rfl,p,C,dx,_,_,rfl,h1,T.cl,T.s1,Cq,_,rfl,ln,_,_,_,rfl,rfl,SqL.of g1,hat,rfl,_,rfl,?_⟩
    refine iteF ?_
    refine ⟨_,rfl,_,rfl,p,C,dx,_,_,rfl,h1,T.cl,T.s1,Cq,ln,_,rfl,.inl (SqL.of g1),_,_,rfl,rfl,_,rfl,?_⟩
    rw [hlv,decide_eq_true hlt]
    refine iteT ?_
    obtain ⟨j,ej,es⟩:=setOk H1 none R' c rfl B1
    refine ⟨_,rfl,_,rfl,p,C,dx,_,_,rfl,h1,T.cl,T.s1,Cq,_,rfl,ln,_,_,j,rfl,rfl,g1,ej,?_⟩
    rw [es]
    have e1:D++some c::R'=C4 S n t.line:=by
     rw [← hgo]
     unfold goL
     by_cases e:D.length=0
     ·rw [if_pos e,hc0 e]; rfl
     ·rw [if_neg e]; rfl
    rw [e1]
    have hl2:(C4 S n t.line).length≤1000:=by
     rw [← e1,List.length_append]
     have:(D++none::R').length≤1000:=g3
     rw [List.length_append] at this
     exact this
    exact k _ (B1.setLine hI (C4 S n t.line) hl2) (F1.trans (Fr.upd O (.inr (.inr (.inr (.inl rfl))))))
  | some th::R',hgo,hlR,hlen,B1,g1,hlv,h1,g3,setOk=>
    have hlt:(D.length:Int)<((D.length+(some th::R':Line).length:Nat):Int):=by simp only [List.length_cons]; omega
    have hat:atI (Bc (D++some th::R')) (D.length:Int)=some (.str th):=D8 (by unfold Bc; rw [List.getElem?_map,List.getElem?_append_right (Nat.le_refl _),Nat.sub_self]; rfl)
    have lR':Cw S R':=fun i m z=>hlR (i+1) m (Ay.mpr z)
    obtain ⟨et,het⟩:=hlR 0 th (Bf.mpr rfl)
    have entn:et.1=th:=(Be het).1
    rw [decide_eq_true hlt]
    refine iteT ?_
    refine ⟨_,rfl,p,C,dx,_,_,rfl,h1,T.cl,T.s1,Cq,_,rfl,ln,_,_,_,rfl,rfl,SqL.of g1,hat,rfl,_,rfl,?_⟩
    refine iteT ?_
    refine ⟨fun σ' H'=>∃ (D2:Line) (c2:Str),D2.length=D.length+1∧σ'=[some (.ref p),some (.str n),some (.str c2),some (.int (D2.length:Int)),some (.str th)]∧Ah (rowK C p dc dl ln ma) S {t with line:=D2++R'} H'∧Fr (rowK C p dc dl ln ma) H H'∧(∃ e,A1 S.ents c2=some e)∧D2++Cu S c2 R'=C4 S n t.line,?_,?_⟩
    ·rintro σ' H' ⟨D2,c2,hD2,rfl,b2,f2,ce2,e2⟩
     refine ⟨R'.length,by simp,D2,R',c2,_,rfl,rfl,b2,f2,fun z=>by omega,fun _=>ce2,?_,lR',by simp only [List.length_cons] at hlen; omega⟩
     unfold goL
     rw [if_neg (by omega)]
     exact e2
    refine ⟨_,rfl,p,C,dx,_,_,rfl,h1,T.cl,T.s1,Cq,_,rfl,ln,_,_,_,rfl,rfl,SqL.of g1,hat,?_⟩
    refine ⟨fun σ' H'=>∃ (D2:Line) (c2:Str),D2.length=D.length+1∧σ'=[some (.ref p),some (.str n),some (.str c2),some (.int (D.length:Int)),some (.str th)]∧Ah (rowK C p dc dl ln ma) S {t with line:=D2++R'} H'∧Fr (rowK C p dc dl ln ma) H H'∧(∃ e,A1 S.ents c2=some e)∧D2++Cu S c2 R'=C4 S n t.line,?_,?_⟩
    ·-- put: the one that stands there is carried on
     have put:∀ H2,Ah (rowK C p dc dl ln ma) S {t with line:=D++some th::R'} H2->Fr (rowK C p dc dl ln ma) H H2->D++some c::Cu S th R'=C4 S n t.line->∃ j,ixN (Bc (D++some th::R')).length (D.length:Int)=some j∧Ah (rowK C p dc dl ln ma) S {t with line:=(D++[some c])++R'} (upd H2 ln (.lst ((Bc (D++some th::R')).set j (.str c))))∧(D++[some c])++Cu S th R'=C4 S n t.line:=fun H2 b2 f2 e2=>by
      obtain ⟨j,ej,es⟩:=setOk H2 (some th) R' c rfl b2
      refine ⟨j,ej,?_,by rw [← e2,List.append_assoc]; rfl⟩
      rw [es,show D++some c::R'=(D++[some c])++R' by rw [List.append_assoc]; rfl]
      refine b2.setLine hI ((D++[some c])++R') ?_
      have:(D++some th::R').length≤1000:=g3
      rw [List.length_append] at this ⊢
      rw [List.length_append]
      simp only [List.length_cons,List.length_nil] at this ⊢
      omega
     by_cases e0:D.length=0
     ·refine ⟨_,rfl,rfl,_,rfl,?_⟩
      rw [decide_eq_true (show V.int (D.length:Int)=V.int 0 by rw [e0]; rfl)]
      refine iteT ?_
      refine iteT ?_
      have eb:D++some c::Cu S th R'=C4 S n t.line:=by
       rw [← hgo]
       unfold goL
       rw [if_pos e0,hc0 e0]
       rfl
      obtain ⟨j,ej,b3,e3⟩:=put H1 B1 F1 eb
      refine ⟨_,rfl,_,rfl,p,C,dx,_,_,rfl,h1,T.cl,T.s1,Cq,_,rfl,ln,_,_,j,rfl,rfl,g1,ej,?_⟩
      exact ⟨_,rfl,D++[some c],th,by rw [List.length_append]; rfl,rfl,b3,F1.trans (Fr.upd O (.inr (.inr (.inr (.inl rfl))))),⟨et,het⟩,e3⟩
     ·obtain ⟨ec,hec⟩:=hc1 e0
      have ecn:ec.1=c:=(Be hec).1
      refine ⟨_,rfl,rfl,_,rfl,?_⟩
      rw [decide_eq_false (show ¬ V.int (D.length:Int)=V.int 0 from fun z=>e0 (by have:=V.int.inj z; omega))]
      refine iteF ?_
      refine ⟨_,rfl,p,dx,_,rfl,h1,B1.fno O (by decide +kernel) (by decide +kernel),_,rfl,_,S,_,et,hκ,by rw [entn]; rfl,B1.r,by rw [entn]; exact het,fun q1 hq1=>?_⟩
      have Sq1:Same H1 (upd H1 q1 (.tup [.int et.2.1,.int et.2.2])):=Same.upd hq1
      have hq1':(upd H1 q1 (.tup [.int et.2.1,.int et.2.2])) q1=some (.tup ([et.2.1,et.2.2].map V.int)):=Ag
      have B2:=B1.same O Sq1
      generalize upd H1 q1 (.tup [.int et.2.1,.int et.2.2])=H2 at Sq1 hq1' B2 ⊢
      obtain ⟨dx2,b1⟩:=id B2.ob
      refine ⟨_,rfl,p,dx2,_,rfl,b1,B2.fno O (by decide +kernel) (by decide +kernel),_,rfl,_,S,_,ec,hκ,by rw [ecn]; rfl,B2.r,by rw [ecn]; exact hec,fun q2 hq2=>?_⟩
      have Sq2:Same H2 (upd H2 q2 (.tup [.int ec.2.1,.int ec.2.2])):=Same.upd hq2
      have hq2':(upd H2 q2 (.tup [.int ec.2.1,.int ec.2.2])) q2=some (.tup ([ec.2.1,ec.2.2].map V.int)):=Ag
      have B3:=B2.same O Sq2
      generalize upd H2 q2 (.tup [.int ec.2.1,.int ec.2.2])=H3 at Sq2 hq2' B3 ⊢
      have F3:=F1.trans (Fr.of_same (Sq1.trans Sq2))
      have kt:Bd S th=[et.2.1,et.2.2]:=by unfold Bd; rw [het]
      have kc:Bd S c=[ec.2.1,ec.2.2]:=by unfold Bd; rw [hec]
      refine ⟨q1,q2,[et.2.1,et.2.2],[ec.2.1,ec.2.2],rfl,rfl,SqT.of (Sq2 _ _ hq1'),SqT.of hq2',_,rfl,?_⟩
      rw [← kt,← kc]
      have hgo':D++Cu S c (some th::R')=C4 S n t.line:=by
       rw [← hgo]; unfold goL; rw [if_neg e0]
      unfold Cu at hgo'
      by_cases e:HT.A7 (Bd S th) (Bd S c)=true
      ·rw [if_pos e] at hgo'
       rw [e]
       refine iteT ?_
       obtain ⟨j,ej,b3,e3⟩:=put H3 B3 F3 hgo'
       obtain ⟨dx3,c1⟩:=id B3.ob
       refine ⟨_,rfl,_,rfl,p,C,dx3,_,_,rfl,c1,T.cl,T.s1,Cq,_,rfl,ln,_,_,j,rfl,rfl,B3.ex.li,ej,?_⟩
       exact ⟨_,rfl,D++[some c],th,by rw [List.length_append]; rfl,rfl,b3,F3.trans (Fr.upd O (.inr (.inr (.inr (.inl rfl))))),⟨et,het⟩,e3⟩
      ·have e':HT.A7 (Bd S th) (Bd S c)=false:=by simpa using e
       rw [if_neg e] at hgo'
       rw [e']
       refine iteF ?_
       exact ⟨D++[some th],c,by rw [List.length_append]; rfl,rfl,by rw [show (D++[some th])++R'=D++some th::R' by rw [List.append_assoc]; rfl]; exact B3,F3,⟨ec,hec⟩,by rw [← hgo',List.append_assoc]; rfl⟩
    ·rintro σ' H' ⟨D2,c2,hD2,rfl,b2,f2,ce2,e2⟩
     refine ⟨_,rfl,_,_,rfl,rfl,D2,c2,hD2,?_,b2,f2,ce2,e2⟩
     rw [hD2]
     push_cast
     rfl
end
end Lk

namespace Lk
open PySem L2
abbrev L8:Stmt:=top 12
def Tr (L:Line):Prop:=trim L=L
theorem Pi:∀ L:Line,trim (trim L)=trim L
 | []=>rfl
 | x::r=>by
   rw [Co]
   by_cases h:x=none∧trim r=[]
   ·rw [if_pos h]; rfl
   ·rw [if_neg h,Co,Pi r,if_neg h]
theorem U5 {L:Line} {n:Str} (h:Tr L):Tr (rmv L n):=by
 unfold rmv
 cases Da L n with
 | none=>exact h
 | some j=>exact Pi _
theorem Ek {x:Option Str} {r:Line} (h:Tr (x::r)):Tr r:=by
 unfold Tr at h ⊢
 rw [Co] at h
 by_cases c:x=none∧trim r=[]
 ·rw [if_pos c] at h; cases h
 ·rw [if_neg c] at h; exact (List.cons.inj h).2
theorem E6 {x:Str} {r:Line} (h:Tr r):Tr (some x::r):=by
 unfold Tr at h ⊢
 rw [Co,if_neg (fun z=>by cases z.1),h]
theorem M6 {S:BS}:∀ {L:Line} {c:Str},Tr L->Tr (Cu S c L)
 | [],c,_=>E6 (r:=[]) rfl
 | none::r,c,h=>E6 (Ek h)
 | some t::r,c,h=>by
   unfold Cu
   by_cases e:HT.A7 (Bd S t) (Bd S c)=true
   ·rw [if_pos e]; exact E6 (M6 (Ek h))
   ·rw [if_neg e]; exact E6 (M6 (Ek h))
theorem aA {S:BS} {n:Str}:∀ {L:Line},Tr L->Tr (C4 S n L)
 | [],_=>E6 (r:=[]) rfl
 | none::r,h=>E6 (Ek h)
 | some t::r,h=>E6 (M6 (Ek h))
structure Kb (S:BS) (steps:Int) (t t':RoS):Prop where
 hs:∀ i m,Has t'.line i m↔Has t.line i m∧Dz S steps m=true
 mt:t'.met=t.met
 ln:t'.line.length≤t.line.length
 tr:Tr t.line->Tr t'.line
theorem Ur (d:Int):∀ (qs:List (Int×Str)) (t:RoS),Tr t.line->Tr (Dn Df d qs t).line
 | [],_,h=>h
 | q::r,t,h=>Ur d r (Df d q.2 q.1 t) (U5 h)
theorem Ow (d:Int):∀ (qs:List (Int×Str)) (t:RoS),ND t.line->(∀ i m,Has (Dn Df d qs t).line i m↔Has t.line i m∧m∉qs.map (·.2))∧(Dn Df d qs t).met=t.met∧(Dn Df d qs t).line.length≤t.line.length
 | [],t,_=>⟨fun i m=>⟨fun z=>⟨z,by simp⟩,fun z=>z.1⟩,rfl,Nat.le_refl _⟩
 | q::r,t,nd=>by
   have h0:∀ i m,Has (rmv t.line q.2) i m↔Has t.line i m∧m≠q.2:=fun i m=>Fo nd
   obtain ⟨h1,h2,h3⟩:=Ow d r (Df d q.2 q.1 t) (E4 nd fun i m z=>((h0 i m).mp z).1)
   refine ⟨fun i m=>?_,h2,Nat.le_trans h3 (L9 _ _)⟩
   show Has (Dn Df d r (Df d q.2 q.1 t)).line i m↔_
   rw [h1]
   show Has (rmv t.line q.2) i m∧_↔_
   rw [h0,List.map_cons,List.mem_cons]
   exact ⟨fun z=>⟨z.1.1,fun y=>y.elim z.1.2 z.2⟩,fun z=>⟨⟨z.1,fun y=>z.2 (.inl y)⟩,fun y=>z.2 (.inr y)⟩⟩
theorem N8 {S:BS} {steps:Int} {t t':RoS} (nd:ND t.line) (h:Iq Df S steps t t'):Kb S steps t t':=by
 unfold Iq at h
 by_cases hp:0<Bl S steps
 ·rw [if_pos hp] at h
  obtain ⟨qs,⟨pm,_⟩,rfl⟩:=h
  obtain ⟨h1,h2,h3⟩:=Ow S.deeds qs t nd
  refine ⟨fun i m=>?_,h2,h3,Ur _ qs t⟩
  rw [h1]
  unfold Dz
  rw [if_pos hp,decide_eq_true_eq]
  have hm:(m∈qs.map (·.2))↔m∈(Cz S.ents S.part (Bl S steps)).map (·.1):=by
   rw [(pm.map (·.2)).mem_iff,List.map_map]
   exact Iff.rfl
  rw [hm]
 ·rw [if_neg hp] at h
  subst h
  refine ⟨fun i m=>?_,rfl,Nat.le_refl _,id⟩
  unfold Dz
  rw [if_neg hp]
  exact ⟨fun z=>⟨z,rfl⟩,fun z=>z.1⟩
theorem Kb.nd {S:BS} {steps:Int} {t t':RoS} (p:Kb S steps t t') (nd:ND t.line):ND t'.line:=E4 nd fun i m z=>((p.hs i m).mp z).1
theorem Cw.passed {S:BS} {steps:Int} {t t':RoS} (h:Cw S t.line) (nd:(An S.ents).Nodup) (p:Kb S steps t t'):Cw (Bb S steps) t'.line:=fun i m z=>by
 obtain ⟨z1,z2⟩:=(p.hs i m).mp z
 obtain ⟨e,he⟩:=h i m z1
 exact Jd nd he z2
def askR (S1:BS) (n:Str) (t1:RoS):RoS:=⟨C4 S1 n (rmv t1.line n),match Da t1.line n with
 | some i=>incM t1.met ((i+1:Nat):Int)
 | none=>t1.met⟩
section
variable {P:Program} {w:World} {K:PySem.W.Frag} {mg:Str->Option Value} {base:Heap} {C:Addr}
def Q0 (C:Addr):Sp:=fun vs H Q _=>∃ (κ:Kd RoS) (S:BS) (t:RoS) (n:Str) (w:Int),(rows C).is κ∧vs=[.ref κ.p,.str n,.int w]∧Ah κ S t H∧Fit S∧Fit (Bb (A0 S) 1)∧A5 n∧1≤w∧w≤10 ^ 30∧ND t.line∧Cw S t.line∧t.line.length<1000∧t.met.length<1000 ∧
 ∀ t1 H',Kb (A0 S) 1 t t1->Ah κ (askS S n w) (askR (Bb (A0 S) 1) n t1) H'->Fr κ H H'->Q (K0 t1.line n) H'
theorem Vf:Al ["self","name","weight","spot"] ["self","name","weight"] (defScope Jq):=⟨rfl,rfl,rfl,by decide +kernel,rfl,by decide +kernel,by decide +kernel⟩
theorem gK {f gb gg gs gl gi:Addr} {fd:FuncData} {ds:List Value} (F:FunD K "ask" "Row.ask" Jq f fd ds) (T:RTxt K C) (Gb:FnP P w K mg base 16 gb ["self","name","weight"] (Fa (rows C) Df)) (Mb:Meth K C "begin_ask" gb)
  (Gg:FnP P w K mg base 1 gg ["self","name","weight"] (Q3 (rows C))) (Mg:Meth K C "grow" gg) (Gs:FnP P w K mg base 1 gs ["self","name"] (Jn C)) (Ms:Meth K C "spot_of" gs) (Gl:FnP P w K mg base 1 gl ["self","spot"] (Lz C)) (Ml:Meth K C "leave" gl)
  (Gi:FnP P w K mg base 3 gi ["self","name"] (Pp C)) (Mi:Meth K C "bring_in" gi):FnOk P w K mg base CX0 18 f fd ["self","name","weight"] (Q0 C):=by
 refine F.ok Vf (fun vs H Q E h=>?_) (fun cdv A outer s H vs Q E hr h=>?_)
 ·obtain ⟨κ,S,t,n,w,_,rfl,_⟩:=h
  rfl
 ·obtain ⟨κ,S,t,n,w,hκ,rfl,B0,fit,fit1,gn1,w1,w2,nd,lin,fl,fm,k⟩:=h
  have hC:=(rows C).cls κ hκ
  have O:=(rows C).ok κ hκ
  have hu:=Dj hr
  obtain ⟨dx,h1⟩:=B0.ob
  rw [hC] at h1
  refine ⟨_,Ad (Ak (Aw (pv 0) T.cl Mb Gb (hr.mono (by decide)) (Aa (pv 1) (Aa (pv 2) Ac))))
   (Ad (A3 (i:=3) Vf.nd rfl (Or.inl rfl) (Aw (pv 0) T.cl Ms Gs (hr.mono (by decide)) (Aa (pv 1) Ac)))
   (Ad (Mh (Az (Ar Mo (pv 3) D0 (Au _)) (Ad (Jv hu (Ax (pv 0) rfl) (pv 3) (Ai Bj (N6 hu (Ax (pv 0) rfl) (pv 3) Ab ⟨rfl,rfl,rfl,rfl⟩) Ab) rfl)
      (Af (Ak (Aw (pv 0) T.cl Ml Gl (hr.mono (by decide)) (Aa (pv 3) Ac))))) Av))
   (Ad (Ak (Aw (pv 0) T.cl Mi Gi (hr.mono (by decide)) (Aa (pv 1) Ac)))
   (Ad (Ak (Aw (pv 0) T.cl Mg Gg (hr.mono (by decide)) (Aa (pv 1) (Aa (pv 2) Ac))))
   (Af (As (pv 3))))))),?_⟩
  refine ⟨_,rfl,κ.p,dx,_,rfl,h1,B0.fno O (by decide +kernel) (by decide +kernel),_,rfl,_,rfl,?_⟩
  refine ⟨κ,S,t,n,w,hκ,rfl,B0,fit,gn1,w1,w2,fun t1 H1 pt b1 f1=>?_⟩
  have pd:=N8 nd pt
  have lin1:Cw (Bb (A0 S) 1) t1.line:=Cw.passed (S:=A0 S) lin fit.nd pd
  have nd1:=pd.nd nd
  have fl1:t1.line.length<1000:=Nat.lt_of_le_of_lt pd.ln fl
  have fm1:t1.met.length<1000:=by rw [pd.mt]; exact fm
  have get:∀ {S:BS} {t:RoS} {H:Hp},Ah κ S t H->∃ dx,H κ.p=some (.ins C dx (Bm S κ.dc κ.dl (κ.ex t))):=fun {S t H} B=>by
   obtain ⟨dx,h⟩:=id B.ob
   rw [hC] at h
   exact ⟨dx,h⟩
  obtain ⟨dx1,g1⟩:=get b1
  refine ⟨_,rfl,κ.p,dx1,_,rfl,g1,b1.fno O (by decide +kernel) (by decide +kernel),_,rfl,κ,_,t1,n,hκ,rfl,b1,?_⟩
  generalize hm2:(askR (Bb (A0 S) 1) n t1).met=m2
  refine ⟨fun σ' H'=>σ'=[some (.ref κ.p),some (.str n),some (.int w),some (K0 t1.line n)]∧Ah κ (Bb (A0 S) 1) ⟨rmv t1.line n,m2⟩ H'∧Fr κ H H',?_,?_⟩
  ·unfold askR at hm2
   dsimp only at hm2
   unfold rmv K0
   cases e:Da t1.line n with
   | none=>
     rw [e] at hm2
     refine ⟨_,rfl,rfl,_,rfl,?_⟩
     refine iteF ⟨rfl,?_,f1⟩
     rw [← hm2]
     exact b1
   | some i=>
     rw [e] at hm2
     have hm2:incM t1.met ((i+1:Nat):Int)=m2:=hm2
     refine ⟨_,rfl,rfl,_,rfl,?_⟩
     refine iteT ?_
     obtain ⟨p,dc,dl,ln,ma,hI⟩:=id hκ
     obtain ⟨rfl,n0,n1,n2,n3⟩:=id hI
     refine ⟨_,rfl,p,C,dx1,_,_,rfl,g1,T.cl,T.s2,Mu,ma,rfl,.inl ⟨_,.inl b1.ex.mt⟩,_,rfl,_,DGet.k (k:=Sum.inl ((i+1:Nat):Int)) b1.ex.mt,_,_,dP,rfl,?_⟩
     refine ⟨_,rfl,p,C,dx1,_,_,rfl,g1,T.cl,T.s2,Mu,_,rfl,ma,_,rfl,DPut.k (k:=Sum.inl ((i+1:Nat):Int)) b1.ex.mt (Nat.lt_of_le_of_lt (show (tabM t1.met).length≤1000 by unfold tabM; rw [List.length_map]; omega) (by decide)),?_⟩
     have em:putK (tabM t1.met) (Sum.inl ((i+1:Nat):Int):Key) (.int (getM t1.met ((i+1:Nat):Int)+1))=tabM m2:=by rw [Yj,← hm2]; rfl
     have hml:m2.length≤1000:=by rw [← hm2]; exact Nat.le_trans T8 (by omega)
     have b2:Ah (rowK C p dc dl ln ma) (Bb (A0 S) 1) ⟨t1.line,m2⟩ (upd H1 ma (.dK (putK (tabM t1.met) (Sum.inl ((i+1:Nat):Int):Key) (.int (getM t1.met ((i+1:Nat):Int)+1))))):=by
      rw [em]
      exact b1.setMet hI m2 hml
     have f2:Fr (rowK C p dc dl ln ma) H (upd H1 ma (.dK (putK (tabM t1.met) (Sum.inl ((i+1:Nat):Int):Key) (.int (getM t1.met ((i+1:Nat):Int)+1))))):=f1.trans (Fr.upd O (.inr (.inr (.inr (.inr rfl)))))
     generalize upd H1 ma (.dK (putK (tabM t1.met) (Sum.inl ((i+1:Nat):Int):Key) (.int (getM t1.met ((i+1:Nat):Int)+1))))=H2 at b2 f2 ⊢
     obtain ⟨dx2,g2⟩:=get b2
     refine ⟨_,rfl,p,dx2,_,rfl,g2,b2.fno O (by decide +kernel) (by decide +kernel),_,rfl,_,_,⟨t1.line,m2⟩,i,hκ,rfl,b2,Jc (Do e).1,fun H3 b3 f3=>⟨rfl,b3,f2.trans f3⟩⟩
  ·rintro σ' H2 ⟨rfl,b2,f2⟩
   obtain ⟨dx2,g2⟩:=get b2
   refine ⟨_,rfl,κ.p,dx2,_,rfl,g2,b2.fno O (by decide +kernel) (by decide +kernel),_,rfl,κ,_,⟨rmv t1.line n,m2⟩,n,hκ,rfl,b2,fun i m z=>lin1 i m ((Fo nd1).mp z).1,Nat.lt_of_le_of_lt (L9 _ _) fl1,fun H3 b3 f3=>?_⟩
   obtain ⟨dx3,g3⟩:=get b3
   refine ⟨_,rfl,κ.p,dx3,_,rfl,g3,b3.fno O (by decide +kernel) (by decide +kernel),_,rfl,_,rfl,κ,_,_,n,w,hκ,rfl,b3,fit1.nd,fit1.few,fun H4 b4 f4=>⟨_,rfl,?_⟩⟩
   refine k t1 H4 pd ?_ ((f2.trans f3).trans f4)
   rw [← hm2] at b4
   exact b4
def Ly (C:Addr):Sp:=fun vs H Q _=>∃ (κ:Kd RoS) (S:BS) (t:RoS) (n:Str),(rows C).is κ∧vs=[.ref κ.p,.str n]∧Ah κ S t H∧A5 n∧∀ H',Ah κ (A0 S) {t with line:=rmv t.line n} H'->Fr κ H H'->Q (.bl (Da t.line n).isSome) H'
theorem Q9:Al ["self","name","spot"] ["self","name"] (defScope Rj):=⟨rfl,rfl,rfl,by decide +kernel,rfl,by decide +kernel,by decide +kernel⟩
theorem cQ {f gb gs gl:Addr} (F:FunB K "drop" "Row.drop" Rj f ["self","name"]) (T:RTxt K C) (Gb:FnP P w K mg base 4 gb ["self","name"] (Em (rows C))) (Mb:Meth K C "begin_drop" gb)
  (Gs:FnP P w K mg base 1 gs ["self","name"] (Jn C)) (Ms:Meth K C "spot_of" gs) (Gl:FnP P w K mg base 1 gl ["self","spot"] (Lz C)) (Ml:Meth K C "leave" gl):FnP P w K mg base 6 f ["self","name"] (Ly C):=by
 refine F.ok Q9 (fun vs H Q E h=>?_) (fun cdv A outer s H vs Q E hr h=>?_)
 ·obtain ⟨κ,S,t,n,_,rfl,_⟩:=h
  rfl
 ·obtain ⟨κ,S,t,n,hκ,rfl,B0,gn1,k⟩:=h
  have hC:=(rows C).cls κ hκ
  have O:=(rows C).ok κ hκ
  obtain ⟨dx,h1⟩:=B0.ob
  rw [hC] at h1
  refine ⟨_,Ad (Ak (Aw (pv 0) T.cl Mb Gb (hr.mono (by decide)) (Aa (pv 1) Ac)))
   (Ad (A3 (i:=2) Q9.nd rfl (Or.inl rfl) (Aw (pv 0) T.cl Ms Gs (hr.mono (by decide)) (Aa (pv 1) Ac)))
   (Ad (Az (Ar Rx (pv 2) D0 (Au _)) (Af (As C3)) Av)
   (Ad (Ak (Aw (pv 0) T.cl Ml Gl (hr.mono (by decide)) (Aa (pv 2) Ac)))
   (Af (As C3))))),?_⟩
  refine ⟨_,rfl,κ.p,dx,_,rfl,h1,B0.fno O (by decide +kernel) (by decide +kernel),_,rfl,κ,S,t,n,hκ,rfl,B0,gn1,fun H1 b1 f1=>?_⟩
  obtain ⟨dx1,g1⟩:=b1.ob
  rw [hC] at g1
  refine ⟨_,rfl,κ.p,dx1,_,rfl,g1,b1.fno O (by decide +kernel) (by decide +kernel),_,rfl,κ,_,t,n,hκ,rfl,b1,?_⟩
  unfold K0
  unfold rmv at k
  cases e:Da t.line n with
  | none=>
    rw [e] at k
    refine ⟨_,rfl,rfl,_,rfl,?_⟩
    refine iteT ?_
    exact k H1 b1 f1
  | some i=>
    rw [e] at k
    refine ⟨_,rfl,rfl,_,rfl,?_⟩
    refine iteF ?_
    refine ⟨_,rfl,κ.p,dx1,_,rfl,g1,b1.fno O (by decide +kernel) (by decide +kernel),_,rfl,κ,_,t,i,hκ,rfl,b1,Jc (Do e).1,fun H2 b2 f2=>?_⟩
    exact k H2 b2 (f1.trans f2)
def Wz (C:Addr):Sp:=fun vs H Q _=>∃ (p dx:Addr) (span part:Int),vs=[.ref p,.int span,.int part]∧H p=some (.ins C dx [])∧1≤span∧span≤10 ^ 20∧2≤part∧part≤10 ^ 30 ∧
 ∀ κ H',(rows C).is κ->κ.p=p->(∀ b,κ.own b->b=p∨H b=none)->Ah κ (C2 span part) ⟨[],[]⟩ H'->(∀ b o,H b=some o->b≠p->H' b=some o)->Q .non H'
theorem Xa:Al ["self","span","part"] ["self","span","part"] (defScope Ri):=⟨rfl,rfl,rfl,by decide +kernel,rfl,by decide +kernel,by decide +kernel⟩
theorem cN {f gi C0:Addr} (F:FunB K "__init__" "Row.__init__" Ri f ["self","span","part"]) (T:RTxt K C)
  (hC0:mg "Book"=some (.ref C0)) (cm:Pb K C0 "__init__" gi) (Gi:FnP P w K mg base 4 gi ["self","span","part"] (Q2 C)):FnP P w K mg base 6 f ["self","span","part"] (Wz C):=by
 refine F.ok Xa (fun vs H Q E h=>?_) (fun cdv A outer s H vs Q E hr h=>?_)
 ·obtain ⟨p,dx,span,part,rfl,_⟩:=h
  rfl
 ·obtain ⟨p,dx,span,part,rfl,hp,g1,g2,g3,g4,k⟩:=h
  refine ⟨_,Ad (Ak (Xj hC0 cm Gi (hr.mono (by decide)) (Aa (pv 0) (Aa (pv 1) (Aa (pv 2) Ac)))))
   (Ad (Eg (pv 0) (C5 Ac) rfl) (Af (Eg (pv 0) Gk rfl))),?_⟩
  refine ⟨_,rfl,_,rfl,_,rfl,p,dx,span,part,rfl,hp,g1,g2,g3,g4,fun dc dl H1 hdc hdl n0 h1 hc hl k1=>?_⟩
  have npc:p≠dc:=Aj hp hdc
  have npl:p≠dl:=Aj hp hdl
  refine ⟨by show 0≤sizeLine; decide,fun ln hln=>?_⟩
  have npn:p≠ln:=Aj h1 hln
  have ncn:dc≠ln:=Aj hc hln
  have nln:dl≠ln:=Aj hl hln
  refine ⟨_,rfl,p,C,dx,_,rfl,(by rw [Ae npn]; exact h1),T.cl,T.s1,(by show 6<1000; decide),?_⟩
  intro ma hma
  have npm:p≠ma:=Aj Ag hma
  have ncm:dc≠ma:=Aj (o:=.dK []) (by rw [Ae npc.symm,Ae ncn]; exact hc) hma
  have nlm:dl≠ma:=Aj (o:=.dK []) (by rw [Ae npl.symm,Ae nln]; exact hl) hma
  have nnm:ln≠ma:=Aj (o:=.lst []) (by rw [Ae npn.symm,Ag]) hma
  refine ⟨_,rfl,p,C,dx,_,rfl,(by rw [Ae npm]; exact Ag),T.cl,T.s2,(by show 7<1000; decide),?_⟩
  have old:∀ b,H1 b=none->b≠p->H b=none:=fun b e ne=>by
   cases q:H b with
   | none=>rfl
   | some o=>rw [k1 b o q ne] at e; cases e
  have ln0:H ln=none:=old ln hln npn.symm
  have ma0:H ma=none:=old ma (by rw [Ae npm.symm,Ae nnm.symm] at hma; exact hma) npm.symm
  have hi:X1 C (rowK C p dc dl ln ma) p dc dl ln ma:=⟨rfl,n0,⟨npn.symm,ncn.symm,nln.symm⟩,⟨npm.symm,ncm.symm,nlm.symm⟩,nnm⟩
  refine k (rowK C p dc dl ln ma) _ ⟨p,dc,dl,ln,ma,hi⟩ rfl ?_ ?_ ?_
  ·rintro b (rfl | rfl | rfl | rfl | rfl)
   ·exact .inl rfl
   ·exact .inr hdc
   ·exact .inr hdl
   ·exact .inr ln0
   ·exact .inr ma0
  ·refine ⟨⟨dx,Ag⟩,?_,?_,⟨?_,?_,by show 0≤1000; decide,by show 0≤1000; decide⟩,?_⟩
   ·show upd _ p _ dc=_
    rw [Ae npc.symm,Ae ncm,Ae npc.symm,Ae ncn]; exact hc
   ·show upd _ p _ dl=_
    rw [Ae npl.symm,Ae nlm,Ae npl.symm,Ae nln]; exact hl
   ·show upd _ p _ ln=_
    rw [Ae npn.symm,Ae nnm,Ae npn.symm,Ag]; rfl
   ·show upd _ p _ ma=_
    rw [Ae npm.symm,Ag]; rfl
   ·rintro b (rfl | rfl | rfl | rfl | rfl)
    ·exact ⟨_,Ag,by intro xs z; cases z⟩
    ·exact ⟨.dK [],by rw [Ae npc.symm,Ae ncm,Ae npc.symm,Ae ncn]; exact hc,by intro xs z; cases z⟩
    ·exact ⟨.dK [],by rw [Ae npl.symm,Ae nlm,Ae npl.symm,Ae nln]; exact hl,by intro xs z; cases z⟩
    ·exact ⟨.lst [],by rw [Ae npn.symm,Ae nnm,Ae npn.symm,Ag],by intro xs z; cases z⟩
    ·exact ⟨.dK [],by rw [Ae npm.symm,Ag],by intro xs z; cases z⟩
  ·intro b o e hb
   rw [Ae hb,Ae (Aj e ma0),Ae hb,Ae (Aj e ln0)]
   exact k1 b o e hb
end
end Lk

namespace Lk
open PySem L2
theorem dQ {m:List (Int×Int)} (nd:(m.map (·.1)).Nodup) {x:Int×Int} (h:x∈m):(m.find? fun y=>decide (y.1=x.1))=some x:=by
 induction m with
 | nil=>simp at h
 | cons y r ih=>
   obtain ⟨n1,n2⟩:=List.nodup_cons.mp nd
   rw [List.find?_cons]
   rcases List.mem_cons.mp h with z | z
   ·rw [z,decide_eq_true rfl]
   ·have hne:¬ y.1=x.1:=fun e=>n1 (show y.1∈_ by rw [e]; exact List.mem_map.mpr ⟨x,z,rfl⟩)
    rw [decide_eq_false hne]
    exact ih n2 z
section
variable {P:Program} {w:World} {K:PySem.W.Frag} {mg:Str->Option Value} {base:Heap} {C:Addr}
def aO:Sp:=fun vs H Q _=>∃ x:Int,vs=[.int x]∧0≤x∧x≤10 ^ 30∧Q .non H
theorem T2:Al ["many"] ["many"] (defScope L8):=⟨rfl,rfl,rfl,by decide +kernel,rfl,by decide +kernel,by decide +kernel⟩
theorem Yz {f g:Addr} (F:FunB K "check_many" "check_many" L8 f ["many"]) (G:FnP P w K mg base 1 g ["value","least","most"] E7) (hg:mg "is_whole_within"=some (.ref g)):FnP P w K mg base 2 f ["many"] aO:=by
 refine F.ok T2 (fun vs H Q E h=>?_) (fun cdv A outer s H vs Q E hr h=>?_)
 ·obtain ⟨x,rfl,_⟩:=h
  rfl
 ·obtain ⟨x,rfl,g1,g2,k⟩:=h
  refine ⟨_,Af (Az (Bv (Bp (Am G hr hg (Aa (pv 0) (Aa Ab (Aa (Ai Cc Ab Ab) Ac)))))) A2 Av),?_⟩
  refine ⟨_,rfl,_,_,rfl,rfl,Ca _ (by decide) (by decide),x,_,_,rfl,_,rfl,?_⟩
  rw [p30,decide_eq_true (show (0:Int)≤x from g1),decide_eq_true (show x≤1000000000000000000000000000000 by omega)]
  exact iteF k
structure iP (m:List (Int×Int)):Prop where
 nd:(m.map (·.1)).Nodup
 few:m.length<64
 cs:∀ x∈m,0≤x.2∧x.2≤1000
theorem M8:∀ (l:List Int),(∀ x∈l,0≤x∧x≤1000)->0≤l.sum∧l.sum≤1000 * l.length
 | [],_=>⟨Int.le_refl _,by simp⟩
 | x::r,h=>by
   have h1:=h x List.mem_cons_self
   have h2:=M8 r fun y hy=>h y (List.mem_cons_of_mem _ hy)
   rw [List.sum_cons,List.length_cons]
   push_cast
   omega
def W1 (C:Addr):Sp:=fun vs H Q _=>∃ (κ:Kd RoS) (S:BS) (t:RoS) (p:Int),(rows C).is κ∧vs=[.ref κ.p,.int p]∧Ah κ S t H∧1≤p∧p≤1000∧iP t.met∧∀ H',Same H H'->Q (.int (sumM t.met p)) H'
theorem Xc:Al ["self","places"] ["self","places"] (defScope Rk):=⟨rfl,rfl,rfl,by decide +kernel,rfl,by decide +kernel,by decide +kernel⟩
theorem cW {f g:Addr} (F:FunB K "met_by" "Row.met_by" Rk f ["self","places"]) (T:RTxt K C) (bsum:mg "sum"=none) (G:FnP P w K mg base 2 g ["places"] E9) (hg:mg "check_places"=some (.ref g)):FnP P w K mg base 4 f ["self","places"] (W1 C):=by
 refine F.ok Xc (fun vs H Q E h=>?_) (fun cdv A outer s H vs Q E hr h=>?_)
 ·obtain ⟨κ,S,t,q,_,rfl,_⟩:=h
  rfl
 ·obtain ⟨κ,S,t,q,⟨p,dc,dl,ln,ma,rfl,n0,n1,n2,n3⟩,rfl,B,q1,q2,mo,k⟩:=h
  have hu:=Dj hr
  obtain ⟨dx,h1⟩:=id B.ob
  obtain ⟨g1,g2,g3,g4⟩:=id B.ex
  refine ⟨_,Ad (Ak (Am G (hr.mono (by decide)) hg (Aa (pv 1) Ac)))
   (Af (As (Bi (eR rfl) rfl bsum PyProof.Rows.boot_sum (Aa (gC
     (Jw (N':=["spot","self","places"]) (cap:=[none,some 0,some 1]) rfl rfl (gA (Ax (pv 0) rfl)) (fun _ _ _ _ _=>By (i:=0) (by decide +kernel:(["spot","self","places"]:List Str).Nodup) rfl (Or.inl rfl)) (fun _ _ _ _ _=>Xg (Ar Jy (pv 0) (pv 2) (Au _)))
       (fun _ _ _ _ _=>D7 hu (gE (K:=K) rfl (pv 1) rfl) (pv 0) (fun _ _=>rfl)))) Ac)))),?_⟩
  refine ⟨_,rfl,q,rfl,q1,q2,?_⟩
  refine ⟨ma,tabM t.met,g2,?_⟩
  refine ⟨_,rfl,p,C,dx,_,_,rfl,h1,T.cl,T.s2,Mu,ma,_,rfl,g2,fun o=>?_⟩
  have hneq:p≠ma:=n2.1.symm
  have hf1:(upd H ma (.frz o (.dK (tabM t.met)))) p=some (.ins C dx (Bm S dc dl [("line",.ref ln),("met_at",.ref ma)])):=by rw [Ae hneq]; exact h1
  have hf2:(upd H ma (.frz o (.dK (tabM t.met)))) ma=some (.frz o (.dK (tabM t.met))):=Ag
  have hlen:(tabM t.met).length=t.met.length:=by unfold tabM; rw [List.length_map]
  refine J4 t.met.length (fun i ys σ' H'=>ys=((t.met.take i).filter fun x=>decide (x.1≤q)).map (fun x=>V.int x.2)∧H'=upd H ma (.frz o (.dK (tabM t.met)))∧∃ v,σ'=[v,some (.ref p),some (.int q)]) ⟨rfl,rfl,none,rfl⟩ (Nat.le_trans (show t.met.length≤1000 from g4) (by decide)) ?_ ?_ ?_ ?_
  ·rintro i ys σ' H' hi ⟨_,rfl,_⟩
   exact ⟨hf2,by rw [hlen]; exact hi⟩
  ·rintro ys σ' H' ⟨_,rfl,_⟩
   exact ⟨hf2,by rw [hlen]; exact Nat.le_refl _⟩
  ·rintro i ys σ' H' v H2 hi hl ⟨rfl,rfl,w',rfl⟩ ⟨rfl,kk,vv,hkv,rfl⟩
   have hkv':kk=Sum.inl t.met[i].1:=by
    unfold tabM at hkv
    rw [List.getElem?_map,List.getElem?_eq_getElem hi] at hkv
    exact (congrArg Prod.fst (Option.some.inj hkv)).symm
   subst hkv'
   have et:t.met.take (i+1)=t.met.take i++[t.met[i]]:=by rw [List.take_add_one,List.getElem?_eq_getElem hi]; rfl
   refine ⟨_,rfl,_,rfl,_,_,rfl,rfl,_,rfl,?_⟩
   refine ite2 (fun hle=>?_) (fun hgt=>?_)
   ·have hle:t.met[i].1≤q:=of_decide_eq_true hle
    have hval:valV (tabM t.met) (Sum.inl t.met[i].1:Key)=some (.int t.met[i].2):=by
     rw [Ke,dQ mo.nd (List.getElem_mem hi)]
     rfl
    refine ⟨_,rfl,p,C,dx,_,_,rfl,hf1,T.cl,T.s2,Mu,_,rfl,ma,_,rfl,.inl ⟨_,Sum.inl t.met[i].1,.inr ⟨o,hf2⟩,rfl,hval.symm⟩,?_⟩
    refine J5 hi hl (Nat.le_trans (show t.met.length≤1000 from g4) (by decide)) ⟨?_,rfl,_,rfl⟩
    rw [et,List.filter_append,List.map_append]
    congr 1
    rw [List.filter_cons,if_pos (decide_eq_true hle)]
    rfl
   ·have hgt:¬ t.met[i].1≤q:=fun z=>hgt (decide_eq_true z)
    refine lcNo hi hl ⟨?_,rfl,_,rfl⟩
    rw [et,List.filter_append,List.map_append,List.filter_cons,if_neg (by simp only [decide_eq_true_eq]; exact hgt)]
    simp
  ·rintro ys σ' H' ⟨rfl,rfl,w',rfl⟩ l hl
   rw [List.take_length]
   have nlm:l≠ma:=fun z=>by rw [z,hf2] at hl; cases hl
   refine ⟨o,by rw [Ae nlm.symm]; exact hf2,?_⟩
   have hbs:∀ x∈(t.met.filter fun x=>decide (x.1≤q)).map (·.2),0≤x∧x≤1000:=fun x hx=>by
    obtain ⟨y,hy,rfl⟩:=List.mem_map.mp hx
    exact mo.cs y (List.mem_filter.mp hy).1
   refine ⟨l,(t.met.filter fun x=>decide (x.1≤q)).map (·.2),rfl,SqL.of ?_,fun b hb=>?_,fun n=>?_,?_⟩
   ·rw [Ae nlm,Ag,List.map_map]; rfl
   ·have:=hbs b hb
    exact ⟨by omega,by omega⟩
   ·have:=M8 (((t.met.filter fun x=>decide (x.1≤q)).map (·.2)).take n) fun x hx=>hbs x (List.mem_of_mem_take hx)
    have hl2:(((t.met.filter fun x=>decide (x.1≤q)).map (·.2)).take n).length≤1000:=by
     rw [List.length_take,List.length_map]
     have:=List.length_filter_le (fun x:Int×Int=>decide (x.1≤q)) t.met
     have:=g4
     omega
    exact ⟨by omega,by omega⟩
   ·refine k _ fun b u e=>?_
    by_cases hb:b=ma
    ·rw [hb,Ag]; rw [hb,g2] at e; exact e
    ·rw [Ae hb,Ae,Ae hb]
     ·exact e
     ·intro z
      rw [Ae nlm] at hl
      rw [z,hl] at e; cases e
theorem bC:Al ["self","many","met","spot"] ["self","many"] (defScope Rn):=⟨rfl,rfl,rfl,by decide +kernel,rfl,by decide +kernel,by decide +kernel⟩
end
end Lk

namespace Lk
open PySem L2
def metB (s:Option Nat) (p:Nat):Bool:=match s with
 | some i=>decide (i<p)
 | none=>false
def Ls (S:BS) (k:Int) (L L':Line):Prop:=(∀ i m,Has L' i m↔Has L i m∧Dz S k m=true)∧L'.length≤L.length∧(Tr L->Tr L')
def O7 (S:BS) (d:Dd) (L L':Line) (s:Option Nat):Prop:=match d with
 | .ask n _=>∃ L1,Ls (A0 S) 1 L L1∧s=Da L1 n∧L'=C4 (Bb (A0 S) 1) n (rmv L1 n)
 | .rest k=>Ls (A0 S) k L L'∧s=none
 | .drop n=>L'=rmv L n∧s=none
theorem Kx {S:BS}:∀ {L:Line} {c:Str},(Cu S c L).length≤L.length+1
 | [],c=>Nat.le_refl _
 | none::r,c=>Nat.le_succ _
 | some t::r,c=>by
   unfold Cu
   by_cases e:HT.A7 (Bd S t) (Bd S c)=true
   ·rw [if_pos e]; exact Nat.succ_le_succ Kx
   ·rw [if_neg e]; exact Nat.succ_le_succ Kx
theorem Z1 {S:BS} {L:Line} {n:Str}:(C4 S n L).length≤L.length+1:=by
 match L with
 | []=>exact Nat.le_refl _
 | none::r=>exact Nat.le_succ _
 | some t::r=>exact Nat.succ_le_succ Kx
theorem Ls.nd {S:BS} {k:Int} {L L':Line} (h:Ls S k L L') (nd:ND L):ND L':=E4 nd fun i m z=>((h.1 i m).mp z).1
theorem Ls.lin {S:BS} {k:Int} {L L':Line} (h:Ls S k L L') (lin:Cw S L) (nd:(An S.ents).Nodup):Cw (Bb S k) L':=fun i m z=>by
 obtain ⟨z1,z2⟩:=(h.1 i m).mp z
 obtain ⟨e,he⟩:=lin i m z1
 exact Jd nd he z2
theorem O7.ok {ns:List Str} {sp pt:Int} {k:Nat} {S:BS} {d:Dd} {L L':Line} {s:Option Nat} (N:Now ns sp pt k S) (nd:ND L) (lin:Cw S L) (h:O7 S d L L' s):ND L'∧Cw (El S d) L'∧L'.length≤L.length+1:=by
 have cd:Core (A0 S) k:=N.co.of rfl
 have lin0:Cw (A0 S) L:=lin
 cases d with
 | rest z=>
   obtain ⟨h,_⟩:=h
   exact ⟨h.nd nd,h.lin lin0 cd.nd,Nat.le_succ_of_le h.2.1⟩
 | drop n=>
   obtain ⟨rfl,_⟩:=h
   exact ⟨E4 nd fun i m z=>((Fo nd).mp z).1,fun i m z=>lin i m ((Fo nd).mp z).1,Nat.le_succ_of_le (L9 _ _)⟩
 | ask n w=>
   obtain ⟨L1,h1,_,rfl⟩:=h
   have nd1:=h1.nd nd
   have lin1:=h1.lin lin0 cd.nd
   have nd2:ND (rmv L1 n):=E4 nd1 fun i m z=>((Fo nd1).mp z).1
   refine ⟨dB nd2 fun i z=>((Fo nd1).mp z).2 rfl,fun i m z=>?_,Nat.le_trans Z1 (Nat.succ_le_succ (Nat.le_trans (L9 _ _) h1.2.1))⟩
   show ∃ e,A1 (Cy (Bb (A0 S) 1).ents n w _) m=some e
   rw [O0]
   by_cases e:m=n
   ·rw [if_pos e]; exact ⟨_,rfl⟩
   ·rw [if_neg e]
    rcases Zc z with y | ⟨j,y⟩
    ·exact absurd y e
    ·exact lin1 j m ((Fo nd1).mp y).1
theorem O7.tr {S:BS} {d:Dd} {L L':Line} {s:Option Nat} (tr:Tr L) (h:O7 S d L L' s):Tr L':=by
 cases d with
 | rest z=>exact h.1.2.2 tr
 | drop n=>rw [h.1]; exact U5 tr
 | ask n w=>
   obtain ⟨L1,h1,_,rfl⟩:=h
   exact aA (U5 (h1.2.2 tr))
def metC (ss:Nat->Option Nat) (p:Nat):Nat->Int
 | 0=>0
 | k+1=>metC ss p k+if metB (ss k) p=true then 1 else 0
theorem P2 {ss:Nat->Option Nat} {s:Option Nat} {p k:Nat}:∀ j,j≤k->metC (fun j=>if j<k then ss j else s) p j=metC ss p j
 | 0,_=>rfl
 | j+1,h=>by
   have e:(if j<k then ss j else s)=ss j:=if_pos (by omega)
   show metC _ p j+(if metB (if j<k then ss j else s) p=true then 1 else 0)=metC ss p j+_
   rw [P2 j (by omega),e]
structure RowN (ss:Nat->Option Nat) (k:Nat) (m:List (Int×Int)):Prop where
 nd:(m.map (·.1)).Nodup
 few:m.length≤k
 cs:∀ x∈m,0≤x.2∧x.2≤k
 ks:∀ x∈m,1≤x.1∧x.1≤k
 sm:∀ p:Nat,sumM m p=metC ss p k
theorem hV {m:List (Int×Int)} {s:Int} {k:Int} (hk:0≤k) (h:∀ x∈m,0≤x.2∧x.2≤k):0≤getM m s∧getM m s≤k:=by
 unfold getM
 cases e:m.find? fun x=>decide (x.1=s) with
 | none=>exact ⟨Int.le_refl _,hk⟩
 | some x=>exact h x (List.mem_of_find?_eq_some e)
theorem RowN.inc {ss:Nat->Option Nat} {k:Nat} {m:List (Int×Int)} (h:RowN ss k m) {i:Nat} (hi:i<k+1) (hs:ss k=some i):RowN ss (k+1) (incM m ((i+1:Nat):Int)):=by
 have gm:=hV (s:=((i+1:Nat):Int)) (Int.natCast_nonneg k) h.cs
 have mem:∀ x∈incM m ((i+1:Nat):Int),x=(((i+1:Nat):Int),getM m ((i+1:Nat):Int)+1)∨x∈m:=fun x hx=>by
  unfold incM putM at hx
  by_cases e:((i+1:Nat):Int)∈m.map (·.1)
  ·rw [if_pos e] at hx
   obtain ⟨y,hy,rfl⟩:=List.mem_map.mp hx
   by_cases e2:y.1=((i+1:Nat):Int)
   ·rw [if_pos e2,e2]; exact .inl rfl
   ·rw [if_neg e2]; exact .inr hy
  ·rw [if_neg e] at hx
   rcases List.mem_append.mp hx with z | z
   ·exact .inr z
   ·exact .inl (List.mem_singleton.mp z)
 refine ⟨Vn h.nd,Nat.le_trans T8 (Nat.succ_le_succ h.few),fun x hx=>?_,fun x hx=>?_,fun p=>?_⟩
 ·rcases mem x hx with z | z
  ·rw [z]
   show 0≤getM m ((i+1:Nat):Int)+1∧getM m ((i+1:Nat):Int)+1≤((k+1:Nat):Int)
   omega
  ·have:=h.cs x z; omega
 ·rcases mem x hx with z | z
  ·rw [z]
   show 1≤((i+1:Nat):Int)∧((i+1:Nat):Int)≤((k+1:Nat):Int)
   omega
  ·have:=h.ks x z; omega
 ·rw [aD h.nd,h.sm p]
  show _=metC ss p k+if metB (ss k) p=true then 1 else 0
  rw [hs]
  congr 1
  show _=if decide (i<p)=true then (1:Int) else 0
  by_cases e:i<p
  ·rw [if_pos (show ((i+1:Nat):Int)≤(p:Int) by omega),if_pos (decide_eq_true e)]
  ·rw [if_neg (show ¬ ((i+1:Nat):Int)≤(p:Int) by omega),if_neg (by simp only [decide_eq_true_eq]; exact e)]
theorem RowN.same {ss:Nat->Option Nat} {k:Nat} {m:List (Int×Int)} (h:RowN ss k m) (hs:ss k=none):RowN ss (k+1) m:=by
 refine ⟨h.nd,Nat.le_succ_of_le h.few,fun x hx=>?_,fun x hx=>?_,fun p=>?_⟩
 ·have:=h.cs x hx; push_cast; omega
 ·have:=h.ks x hx; push_cast; omega
 ·rw [h.sm p]
  show _=metC ss p k+if metB (ss k) p=true then 1 else 0
  rw [hs]
  show _=metC ss p k+if false=true then 1 else 0
  rw [if_neg Bool.false_ne_true,Int.add_zero]
theorem RowN.metOk {ss:Nat->Option Nat} {k:Nat} {m:List (Int×Int)} (h:RowN ss k m) (hk:k<64):iP m:=⟨h.nd,Nat.lt_of_le_of_lt h.few hk,fun x hx=>by have:=h.cs x hx; omega⟩
theorem RowN.congr {ss ss':Nat->Option Nat} {k:Nat} {m:List (Int×Int)} (h:RowN ss k m) (e:∀ p,metC ss' p k=metC ss p k):RowN ss' k m:=⟨h.nd,h.few,h.cs,h.ks,fun p=>(h.sm p).trans (e p).symm⟩
end Lk

namespace Lk
open PySem L2
def iE:Option Nat->V
 | some i=>.int ((i+1:Nat):Int)
 | none=>.non
def U2 (S:BS) (d:Dd) (t t':RoS) (s:Option Nat) (v:V):Prop:=O7 S d t.line t'.line s∧(t'.met=match s with | some i=>incM t.met ((i+1:Nat):Int) | none=>t.met)∧v=match d with
 | .ask _ _=>iE s
 | .rest k=>.int (Bl S k)
 | .drop n=>.bl (Da t.line n).isSome
def iH (C:Addr):Sp:=fun vs H Q _=>∃ (κ:Kd RoS) (S:BS) (t:RoS) (q:Addr) (d:Dd) (ns:List Str),(rows C).is κ∧vs=[.ref κ.p,.ref q]∧H q=some (.tup (Dd.v d))∧Ah κ S t H∧Fit S∧Fit (Bb (A0 S) 1)∧Qt ns d∧(∀ n∈ns,A5 n)∧ND t.line∧Cw S t.line∧t.line.length<1000∧t.met.length<1000 ∧
 ∀ t' s v H',U2 S d t t' s v->Ah κ (El S d) t' H'->Fr κ H H'->Q v H'
theorem eF {C:Addr} {vs:List V} {H:Hp} {Q:VK} {E:XK} (h:iH C vs H Q E):spDo C (Q0 C) (Es (rows C) Df) (Ly C) vs H Q E:=by
 obtain ⟨κ,S,t,q,d,ns,hκ,rfl,hq,B,fit,fit1,gd,gn,nd,lin,fl,fm,k⟩:=h
 obtain ⟨dx,h1⟩:=B.ob
 have hC:=(rows C).cls κ hκ
 have O:=(rows C).ok κ hκ
 rw [hC] at h1
 refine ⟨κ.p,q,dx,d,_,rfl,hq,h1,B.fno O (by decide +kernel) (by decide +kernel),B.fno O (by decide +kernel) (by decide +kernel),B.fno O (by decide +kernel) (by decide +kernel),?_⟩
 cases d with
 | ask n w=>
   refine ⟨κ,S,t,n,w,hκ,rfl,B,fit,fit1,gn n gd.1,gd.2.1,gd.2.2,nd,lin,fl,fm,fun t1 H' p b f=>?_⟩
   refine k _ (Da t1.line n) _ H' ⟨⟨t1.line,⟨p.hs,p.ln,p.tr⟩,rfl,rfl⟩,?_,?_⟩ b f
   ·show (match Da t1.line n with | some i=>incM t1.met ((i+1:Nat):Int) | none=>t1.met)=_
    rw [p.mt]
   ·unfold K0 iE
    cases Da t1.line n <;> rfl
 | rest z=>
   refine ⟨κ,S,t,z,hκ,rfl,B,fit,gd.1,gd.2,fun t' H' p b f=>?_⟩
   have pl:=N8 nd p
   exact k t' none _ H' ⟨⟨⟨pl.hs,pl.ln,pl.tr⟩,rfl⟩,pl.mt,rfl⟩ b f
 | drop n=>exact ⟨κ,S,t,n,hκ,rfl,B,gn n gd,fun H' b f=>k {t with line:=rmv t.line n} none _ H' ⟨⟨rfl,rfl⟩,rfl,rfl⟩ b f⟩
end Lk

namespace Lk
open PySem L2
def Cl (L:Line):List Str:=L.filterMap id
theorem Lu {L:Line} {i:Nat} (hi:i<L.length):Cl (L.take (i+1))=Cl (L.take i)++(match L[i] with | some n=>[n] | none=>[]):=by
 unfold Cl
 rw [List.take_succ_eq_append_getElem hi,List.filterMap_append]
 congr 1
 cases L[i] <;> rfl
theorem P3 {L:Line} {m:Str}:m∈Cl L↔∃ i,Has L i m:=by
 unfold Cl Has
 rw [List.mem_filterMap]
 constructor
 ·rintro ⟨x,hx,e⟩
  obtain ⟨i,hi,rfl⟩:=List.mem_iff_getElem.mp hx
  exact ⟨i,by rw [List.getElem?_eq_getElem hi]; exact congrArg some e⟩
 ·rintro ⟨i,e⟩
  obtain ⟨hi,e⟩:=List.getElem?_eq_some_iff.mp e
  exact ⟨some m,by rw [← e]; exact List.getElem_mem hi,rfl⟩
theorem Of {L:Line} {p:Nat} {m:Str}:m∈Cl (L.take p)↔InP L p m:=by
 rw [P3]
 unfold InP Has
 constructor
 ·rintro ⟨i,e⟩
  rw [List.getElem?_take] at e
  by_cases h:i<p
  ·rw [if_pos h] at e; exact ⟨i,h,e⟩
  ·rw [if_neg h] at e; cases e
 ·rintro ⟨i,h,e⟩
  exact ⟨i,by rw [List.getElem?_take,if_pos h]; exact e⟩
theorem Gx:∀ {L:Line},ND L->(Cl L).Nodup
 | [],_=>List.nodup_nil
 | none::r,h=>Gx (L:=r) fun i j m a b=>Nat.succ.inj (h (i+1) (j+1) m a b)
 | some n::r,h=>by
   show (n::Cl r).Nodup
   rw [List.nodup_cons]
   refine ⟨fun z=>?_,Gx (L:=r) fun i j m a b=>Nat.succ.inj (h (i+1) (j+1) m a b)⟩
   obtain ⟨i,hi⟩:=P3.mp z
   have:=h 0 (i+1) n rfl hi
   omega
theorem jZ {L:Line} {p:Nat} (h:ND L):ND (L.take p):=fun i j m a b=>by
 unfold Has at a b
 rw [List.getElem?_take] at a b
 by_cases hi:i<p
 ·by_cases hj:j<p
  ·rw [if_pos hi] at a; rw [if_pos hj] at b; exact h i j m a b
  ·rw [if_neg hj] at b; cases b
 ·rw [if_neg hi] at a; cases a
theorem Pd {S:BS} {L:Line} {ns:List Str} {k p:Nat} (h:Cw S L) (c:Core S k) (nd:ND L) (nm:∀ n∈An S.ents,n∈ns) (hl:ns.length≤30):Ch S (Cl (L.take p)):=by
 have th:∀ n∈Cl (L.take p),∃ e,A1 S.ents n=some e:=fun n hn=>by
  obtain ⟨i,_,hi⟩:=Of.mp hn
  exact h i n hi
 have ndp:=Gx (jZ (p:=p) nd)
 refine ⟨th,?_,ndp,c.inj⟩
 have:=PySem.length_le_of_nodup_of_subset _ _ ndp (fun n hn=>by
  obtain ⟨e,he⟩:=th n hn
  exact nm n (List.mem_map.mpr ⟨e,De he,(Be he).1⟩))
 omega
section
variable {P:Program} {w:World} {K:PySem.W.Frag} {mg:Str->Option Value} {base:Heap} {C:Addr}
def Pl (C:Addr) (K:PySem.W.Frag):Sp:=fun vs H Q _=>∃ (κ:Kd RoS) (S:BS) (t:RoS) (x:Addr) (L:Line),(rows C).is κ∧vs=[.ref κ.p,.ref x]∧Ah κ S t H∧SqL K H x (Bc L)∧L.length≤1000∧Ch S (Cl L) ∧
 ∀ l H' ys,H l=none->Same H H'->H' l=some (.lst (ys.map V.str))->Weak S (Cl L) ys->Q (.ref l) H'
theorem Yg:Al ["self","line"] ["self","line"] (defScope Nt):=⟨rfl,rfl,rfl,by decide +kernel,rfl,by decide +kernel,by decide +kernel⟩
theorem Vv {f g:Addr} (F:FunB K "names_on" "Row.names_on" Nt f ["self","line"]) (T:RTxt K C) (G:FnP P w K mg base 6 g ["self","names"] (Ho (rows C) K)) (M:Meth K C "in_order" g):FnP P w K mg base 8 f ["self","line"] (Pl C K):=by
 refine F.ok Yg (fun vs H Q E h=>?_) (fun cdv A outer s H vs Q E hr h=>?_)
 ·obtain ⟨κ,S,t,x,L,_,rfl,_⟩:=h
  rfl
 ·obtain ⟨κ,S,t,x,L,hκ,rfl,B1,hx,few,hs,k⟩:=h
  have O:=(rows C).ok κ hκ
  have hC:=(rows C).cls κ hκ
  obtain ⟨dx,h1⟩:=id B1.ob
  rw [hC] at h1
  refine ⟨_,Af (As (Aw (pv 0) T.cl M G (hr.mono (by decide)) (Aa
   (Jw (N':=["name"]) (cap:=[none]) rfl rfl (Mj (pv 1)) (fun _ _ _ _ _=>By (i:=0) (by decide +kernel:(["name"]:List Str).Nodup) rfl (Or.inl rfl)) (fun _ _ _ _ _=>Xg (Ar Mo (pv 0) D0 (Au _)))
     (fun _ _ _ _ _=>pv 0)) Ac))),?_⟩
  refine ⟨_,rfl,κ.p,dx,_,rfl,h1,B1.fno O (by decide +kernel) (by decide +kernel),_,rfl,x,rfl,⟨_,hx⟩,?_⟩
  have hle:L.length≤sizeLine:=Nat.le_trans few (by decide)
  refine J4 L.length (fun i ys σ' H'=>ys=(Cl (L.take i)).map V.str∧H'=H∧∃ v,σ'=[v]) ⟨rfl,rfl,none,rfl⟩ hle ?_ ?_ ?_ ?_
  ·rintro i ys σ' H' hi ⟨_,rfl,_⟩
   exact ⟨_,optS L[i],hx,by simp [hi]⟩
  ·rintro ys σ' H' ⟨_,rfl,_⟩
   exact ⟨_,hx,by rw [List.length_map]; exact Nat.le_refl _⟩
  ·rintro i ys σ' H' v H2 hi hl ⟨rfl,rfl,w',rfl⟩ ⟨rfl,hy⟩
   have hv:v=optS L[i]:=by
    have:=hy _ hx
    rw [List.getElem?_map,List.getElem?_eq_getElem hi] at this
    exact (Option.some.inj this).symm
   subst hv
   refine ⟨_,rfl,rfl,_,rfl,?_⟩
   have e:=Lu hi
   cases hq:L[i] with
   | none=>
     rw [hq] at e
     refine iteF ?_
     exact lcNo hi hl ⟨by rw [e,List.append_nil],rfl,_,rfl⟩
   | some n=>
     rw [hq] at e
     refine iteT ?_
     refine ⟨_,rfl,?_⟩
     exact J5 hi hl hle ⟨by rw [e,List.map_append]; rfl,rfl,_,rfl⟩
  rintro ys σ' H' ⟨rfl,rfl,w',rfl⟩ lq hlq
  rw [List.take_length]
  have Sl:Same H' (upd H' lq (.lst ((Cl L).map V.str))):=Same.upd hlq
  have hll:(upd H' lq (.lst ((Cl L).map V.str))) lq=some (.lst ((Cl L).map V.str)):=Ag
  have B2:=B1.same O Sl
  have fr:∀ l,(upd H' lq (.lst ((Cl L).map V.str))) l=none->H' l=none:=fun l hl=>by
   cases e:H' l with
   | none=>rfl
   | some o=>rw [Sl _ _ e] at hl; cases hl
  generalize upd H' lq (.lst ((Cl L).map V.str))=H1 at Sl hll B2 fr ⊢
  exact ⟨κ,S,t,_,Cl L,hκ,rfl,B2,⟨lq,rfl,.inl (SqL.of hll)⟩,hs,fun l H2 ys hl S2 hl2 wk=>k l H2 ys (fr l hl) (Sl.trans S2) hl2 wk⟩
def aJ (C:Addr):Sp:=fun vs H Q _=>∃ (κ:Kd RoS) (S:BS) (t:RoS),(rows C).is κ∧vs=[.ref κ.p]∧Ah κ S t H∧Ch S (Cl t.line) ∧
 ∀ l H' ys,H l=none->Same H H'->H' l=some (.lst (ys.map V.str))->Weak S (Cl t.line) ys->Q (.ref l) H'
theorem aZ:Al ["self"] ["self"] (defScope Rh):=⟨rfl,rfl,rfl,by decide +kernel,rfl,by decide +kernel,by decide +kernel⟩
theorem Ys {f g:Addr} (F:FunB K "names" "Row.names" Rh f ["self"]) (T:RTxt K C) (G:FnP P w K mg base 8 g ["self","line"] (Pl C K)) (M:Meth K C "names_on" g):FnP P w K mg base 10 f ["self"] (aJ C):=by
 refine F.ok aZ (fun vs H Q E h=>?_) (fun cdv A outer s H vs Q E hr h=>?_)
 ·obtain ⟨κ,S,t,_,rfl,_⟩:=h
  rfl
 ·obtain ⟨κ,S,t,hκ,rfl,B1,hs,k⟩:=h
  have O:=(rows C).ok κ hκ
  obtain ⟨p,dc,dl,ln,ma,hi⟩:=id hκ
  obtain ⟨rfl,n0,n1,n2,n3⟩:=id hi
  obtain ⟨dx,h1⟩:=id B1.ob
  refine ⟨_,Af (As (Aw (pv 0) T.cl M G (hr.mono (by decide)) (Aa (Ax (pv 0) rfl) Ac))),?_⟩
  refine ⟨_,rfl,p,dx,_,rfl,h1,B1.fno O (by decide +kernel) (by decide +kernel),_,rfl,p,C,dx,_,_,rfl,h1,T.cl,T.s1,Cq,?_⟩
  exact ⟨_,S,t,ln,t.line,hκ,rfl,B1,SqL.of B1.ex.li,B1.ex.few,hs,k⟩
def Wx (C:Addr):Sp:=fun vs H Q _=>∃ (κ:Kd RoS) (S:BS) (t:RoS),(rows C).is κ∧vs=[.ref κ.p]∧Ah κ S t H∧∀ l,H l=none->Q (.ref l) (upd H l (.lst (Bc t.line)))
theorem fJ:Al ["self"] ["self"] (defScope Vh):=⟨rfl,rfl,rfl,by decide +kernel,rfl,by decide +kernel,by decide +kernel⟩
theorem cG {f:Addr} (F:FunB K "spots" "Row.spots" Vh f ["self"]) (B:Blt mg) (T:RTxt K C):FnP P w K mg base 1 f ["self"] (Wx C):=by
 refine F.ok fJ (fun vs H Q E h=>?_) (fun cdv A outer s H vs Q E hr h=>?_)
 ·obtain ⟨κ,S,t,_,rfl,_⟩:=h
  rfl
 ·obtain ⟨κ,S,t,hκ,rfl,B1,k⟩:=h
  obtain ⟨p,dc,dl,ln,ma,hi⟩:=id hκ
  obtain ⟨rfl,n0,n1,n2,n3⟩:=id hi
  obtain ⟨dx,h1⟩:=id B1.ob
  refine ⟨_,Af (As (Hw J8 rfl B.list PyProof.Rows.boot_list (Aa (Ax (pv 0) rfl) Ac))),?_⟩
  refine ⟨_,rfl,p,C,dx,_,_,rfl,h1,T.cl,T.s1,Cq,?_⟩
  exact ⟨ln,_,rfl,.inl (SqL.of B1.ex.li),k⟩
end
end Lk

namespace Lk
open PySem L2
inductive Bh (K:PySem.W.Frag) (H:Hp):V->Prop
 | txt (x:Str) (h:¬ A5 x) (hl:x.length≤1000):Bh K H (.str x)
 | oth {v:V} {t:Value} (h:TyOf K H v t) (e:PySem.W.kitOne K t (.type "str")=some false):Bh K H v
inductive B9 (K:PySem.W.Frag) (H:Hp) (lo hi:Int):V->Prop
 | int (n:Int) (h:n<lo∨hi<n):B9 K H lo hi (.int n)
 | bl (b:Bool):B9 K H lo hi (.bl b)
 | oth {v:V} {t:Value} (h:TyOf K H v t) (e1:PySem.W.kitOne K t (.type "bool")=some false) (e2:PySem.W.kitOne K t (.type "int")=some false):B9 K H lo hi v
theorem TyOf.same {K:PySem.W.Frag} {H H':Hp} {v:V} {t:Value} (s:Same H H') (h:TyOf K H v t):TyOf K H' v t:=by
 cases h with
 | non=>exact .non
 | bl x=>exact .bl x
 | int i=>exact .int i
 | str x=>exact .str x
 | flt x=>exact .flt x
 | lst e=>exact .lst (s _ _ e)
 | frz e=>exact .frz (s _ _ e)
 | tup e=>exact .tup (s _ _ e)
 | dK e=>exact .dK (s _ _ e)
 | dT e=>exact .dT (s _ _ e)
 | ins e cl ha hn htk hm=>exact .ins (s _ _ e) cl ha hn htk hm
theorem Bh.same {K:PySem.W.Frag} {H H':Hp} {v:V} (s:Same H H') (h:Bh K H v):Bh K H' v:=by
 cases h with
 | txt x h hl=>exact .txt x h hl
 | oth h e=>exact .oth (TyOf.same s h) e
theorem B9.same {K:PySem.W.Frag} {H H':Hp} {lo hi:Int} {v:V} (s:Same H H') (h:B9 K H lo hi v):B9 K H' lo hi v:=by
 cases h with
 | int n h=>exact .int n h
 | bl b=>exact .bl b
 | oth h e1 e2=>exact .oth (TyOf.same s h) e1 e2
section
variable {P:Program} {w:World} {K:PySem.W.Frag} {mg:Str->Option Value} {base:Heap}
def Ey (K:PySem.W.Frag):Sp:=fun vs H Q _=>∃ (v:V) (lo hi:Int),vs=[v,.int lo,.int hi]∧B9 K H lo hi v∧Q (.bl false) H
theorem Ym {f:Addr} (F:FunB K "is_whole_within" "is_whole_within" Jr f ["value","least","most"]) (B:Blt mg):FnP P w K mg base 1 f ["value","least","most"] (Ey K):=by
 refine F.ok W7 (fun vs H Q E h=>?_) (fun cdv A outer s H vs Q E hr h=>?_)
 ·obtain ⟨v,lo,hi,rfl,_⟩:=h
  rfl
 ·obtain ⟨v,lo,hi,rfl,bad,k⟩:=h
  refine ⟨_,Ad (Az (PW.pt (K8 (Bp (Fh B.isi B.bool (pv 0) PyProof.Rows.boot_bool)) (Iy (Bv (Bp (Fh B.isi B.int (pv 0) PyProof.Rows.boot_int)))))) (Af (As C3)) Av)
   (Af (As (E2 Jy Jy (pv 1) (pv 0) (pv 2)))),?_⟩
  cases bad with
  | int n h=>
    refine ⟨_,rfl,_,"bool",_,_,rfl,.int n,R9 K,_,rfl,?_⟩
    refine iteF ?_
    refine ⟨_,rfl,_,"int",_,_,rfl,.int n,Wa K,_,rfl,?_⟩
    refine iteF ?_
    refine ⟨_,rfl,_,rfl,_,_,rfl,rfl,_,rfl,?_⟩
    refine ite2 (fun h1=>?_) (fun h1=>?_)
    ·refine ⟨_,rfl,_,_,rfl,rfl,?_⟩
     have h1:=of_decide_eq_true h1
     show Q (.bl (decide (n≤hi))) H
     rw [decide_eq_false (show ¬ n≤hi by omega)]
     exact k
    ·exact k
  | bl b=>
    refine ⟨_,rfl,_,"bool",_,_,rfl,.bl b,Wb K,_,rfl,?_⟩
    exact iteT k
  | oth h e1 e2=>
    refine ⟨_,rfl,_,"bool",_,_,rfl,h,e1,_,rfl,?_⟩
    refine iteF ?_
    refine ⟨_,rfl,_,"int",_,_,rfl,h,e2,_,rfl,?_⟩
    exact iteT k
def Fw (c:Nat):Bool:=decide (32≤c∧c≤126)
theorem aU {c:Nat} (h:¬ 32≤c):(!decide ((⟨#[c]⟩:Str).cps.toList<(" ":Str).cps.toList))=false:=by
 rw [show (" ":Str).cps.toList=[32] by decide,Bool.not_eq_false',decide_eq_true_iff]
 show [c]<[32]
 rw [R7]
 omega
theorem aV {c:Nat} (h:¬ c≤126):(!decide (("~":Str).cps.toList<(⟨#[c]⟩:Str).cps.toList))=false:=by
 rw [show ("~":Str).cps.toList=[126] by decide,Bool.not_eq_false',decide_eq_true_iff]
 show [126]<[c]
 rw [R7]
 omega
def W0 (K:PySem.W.Frag):Sp:=fun vs H Q _=>∃ v:V,vs=[v]∧Bh K H v∧∀ H',Same H H'->Q (.bl false) H'
theorem cV {f:Addr} (F:FunB K "is_name" "is_name" L5 f ["value"]) (B:Blt mg):FnP P w K mg base 1 f ["value"] (W0 K):=by
 refine F.ok bA (fun vs H Q E h=>?_) (fun cdv A outer s H vs Q E hr h=>?_)
 ·obtain ⟨x,rfl,_⟩:=h
  rfl
 ·obtain ⟨v,rfl,bad,k⟩:=h
  refine ⟨_,Ad (Az (Bv (Bp (Fh B.isi B.str (pv 0) PyProof.Rows.boot_str))) (Af (As C3)) Av)
   (Af (As (Rv (E2 Jy Jy Ab (Bi J9 rfl B.len PySem.boot_len (Aa (pv 0) Ac)) Ab)
     (Vr (Bi (O3 rfl) rfl B.all_ PyProof.Rows.boot_all (Aa
       (Jw (N':=["sign"]) (cap:=[none]) rfl rfl (bW (pv 0)) (fun _ _ _ _ _=>By (i:=0) (by decide +kernel:(["sign"]:List Str).Nodup) rfl (Or.inl rfl)) (fun _ _ _ _ _=>Fe)
         (fun _ _ _ _ _=>E2 Hy Hy A4 (pv 0) A4)) Ac)))))),?_⟩
  cases bad with
  | oth h e=>
    refine ⟨_,rfl,_,"str",_,_,rfl,h,e,_,rfl,?_⟩
    exact iteT (k H (fun _ _ z=>z))
  | txt x hx hl=>
    refine ⟨_,rfl,_,"str",_,_,rfl,.str x,dH K,_,rfl,?_⟩
    refine iteF ?_
    refine ⟨_,rfl,_,rfl,Nat.le_trans hl (by decide),_,_,rfl,rfl,_,rfl,?_⟩
    refine ite2 (fun h1=>?_) (fun h1=>?_)
    ·have h1:=of_decide_eq_true h1
     refine ⟨_,_,rfl,rfl,_,rfl,?_⟩
     refine ite2 (fun h2=>?_) (fun h2=>?_)
     ·have h2:=of_decide_eq_true h2
      refine ⟨_,rfl,_,rfl,?_⟩
      refine J4 x.cps.size (fun i ys σ' H'=>ys=((x.cps.toList.take i).map fun c=>V.bl (Fw c))∧H'=H∧∃ v,σ'=[v]) ⟨rfl,rfl,none,rfl⟩ (Nat.le_trans hl (by decide)) (fun i ys σ' H' hi _=>hi) (fun _ _ _ _=>Nat.le_refl _) ?_ ?_
      ·rintro i ys σ' H' v H2 hi hl2 ⟨rfl,rfl,w',rfl⟩ ⟨rfl,c,hc,rfl⟩
       have hc':x.cps.toList[i]?=some c:=by
        have:x.cps[i]?=some c:=hc
        simpa using this
       have done:∀ b,b=Fw c->((x.cps.toList.take i).map fun c=>V.bl (Fw c)).length<sizeLine∧∃ m',m'<x.cps.size - i∧LcW x.cps.size (fun i ys σ' H'=>ys=((x.cps.toList.take i).map fun c=>V.bl (Fw c))∧H'=H2∧∃ v,σ'=[v]) (i+1) m' (((x.cps.toList.take i).map fun c=>V.bl (Fw c))++[V.bl b]) [some (.str ⟨#[c]⟩)] H2:=fun b e=>by
        refine J5 hi hl2 (Nat.le_trans hl (by decide)) ⟨?_,rfl,_,rfl⟩
        rw [e,List.take_add_one,hc',List.map_append]
        rfl
       refine ⟨_,rfl,_,_,rfl,rfl,_,rfl,?_⟩
       by_cases c1:32≤c
       ·rw [W5 c1,if_pos rfl]
        refine ⟨_,_,rfl,rfl,?_⟩
        by_cases c2:c≤126
        ·rw [W6 c2]
         exact done true (by unfold Fw; rw [decide_eq_true ⟨c1,c2⟩])
        ·rw [aV c2]
         exact done false (by unfold Fw; rw [decide_eq_false fun z=>c2 z.2])
       ·rw [aU c1,if_neg Bool.false_ne_true]
        exact done false (by unfold Fw; rw [decide_eq_false fun z=>c1 z.1])
      ·rintro ys σ' H' ⟨rfl,rfl,w',rfl⟩ p hp
       refine ⟨p,x.cps.toList.map Fw,rfl,SqL.of ?_,?_⟩
       ·rw [Ag,List.map_map,List.take_of_length_le (by simp)]
        rfl
       ·have e:(x.cps.toList.map Fw).all id=false:=by
         cases q:(x.cps.toList.map Fw).all id with
         | false=>rfl
         | true=>
           refine absurd ⟨by omega,by omega,fun c hc=>?_⟩ hx
           have:=List.all_eq_true.mp q (Fw c) (List.mem_map.mpr ⟨c,hc,rfl⟩)
           exact of_decide_eq_true this
        rw [e]
        exact k _ (Same.upd hp)
     ·exact k H (fun _ _ z=>z)
    ·exact ⟨_,rfl,iteF (k H (fun _ _ z=>z))⟩
end
end Lk

namespace Lk
open PySem L2
section
variable {P:Program} {w:World} {K:PySem.W.Frag} {mg:Str->Option Value} {base:Heap}
structure Exc (K:PySem.W.Frag) (mg:Str->Option Value) (x:Str) (C:Addr):Prop where
 mg:mg x=some (.ref C)
 ex:PySem.W.excIn K C bmVE "ValueError.__new__"=true
abbrev Cg (H:Hp) (E:XK) (C:Addr):Prop:=∀ H',Same H H'->E (.ref C) none H'
theorem Cg.next {H H1:Hp} {E:XK} {C:Addr} (h:Cg H E C) (s:Same H H1):Cg H1 E C:=fun H' s'=>h H' (fun b o e=>s' b o (s b o e))
theorem Same.rfl {H:Hp}:Same H H:=fun _ _ z=>z
theorem Dp {x:Str}:([V.str x]:List V).length≤sizeLine:=by show 1≤sizeLine; decide
def Eb (K:PySem.W.Frag) (CN:Addr):Sp:=fun vs H _ E=>∃ v:V,vs=[v]∧Bh K H v∧Cg H E CN
theorem V0 {f g CN:Addr} (F:FunB K "check_name" "check_name" L7 f ["name"]) (G:FnP P w K mg base 1 g ["value"] (W0 K)) (hg:mg "is_name"=some (.ref g)) (hx:Exc K mg "NoName" CN):FnX P w K mg base 2 f ["name"] (Eb K CN):=by
 refine F.okX T0 (fun vs H Q E h=>?_) (fun cdv A outer s H vs Q E hr h=>?_)
 ·obtain ⟨x,rfl,_⟩:=h
  rfl
 ·obtain ⟨x,rfl,g1,k⟩:=h
  refine ⟨_,Af (Az (Bv (Bp (Am G hr hg (Aa (pv 0) Ac)))) (Af (Ef Ao rfl rfl hx.mg hx.ex (Aa A4 Ac))) Av),?_⟩
  refine ⟨_,rfl,x,rfl,g1,fun H' S=>⟨_,rfl,?_⟩⟩
  exact iteT ⟨Dp,k H' S⟩
def Et (K:PySem.W.Frag) (CN:Addr) (lo hi:Int):Sp:=fun vs H _ E=>∃ v:V,vs=[v]∧B9 K H lo hi v∧Cg H E CN
theorem R3 {f g CN:Addr} (F:FunB K "check_weight" "check_weight" Hs f ["weight"]) (G:FnP P w K mg base 1 g ["value","least","most"] (Ey K)) (hg:mg "is_whole_within"=some (.ref g)) (hx:Exc K mg "NoNumber" CN):FnX P w K mg base 2 f ["weight"] (Et K CN 1 (10 ^ 30)):=by
 refine F.okX Nj (fun vs H Q E h=>?_) (fun cdv A outer s H vs Q E hr h=>?_)
 ·obtain ⟨x,rfl,_⟩:=h
  rfl
 ·obtain ⟨x,rfl,g1,k⟩:=h
  refine ⟨_,Af (Az (Bv (Bp (Am G hr hg (Aa (pv 0) (Aa Ab (Aa (Ai Cc Ab Ab) Ac)))))) (Af (Ef Ao rfl rfl hx.mg hx.ex (Aa A4 Ac))) Av),?_⟩
  refine ⟨_,rfl,_,_,rfl,rfl,Ca _ (by decide) (by decide),x,_,_,rfl,g1,_,rfl,?_⟩
  exact iteT ⟨Dp,k H Same.rfl⟩
theorem Ug {f g CN:Addr} (F:FunB K "check_steps" "check_steps" Jt f ["steps"]) (G:FnP P w K mg base 1 g ["value","least","most"] (Ey K)) (hg:mg "is_whole_within"=some (.ref g)) (hx:Exc K mg "NoNumber" CN):FnX P w K mg base 2 f ["steps"] (Et K CN 0 (10 ^ 30)):=by
 refine F.okX Ps (fun vs H Q E h=>?_) (fun cdv A outer s H vs Q E hr h=>?_)
 ·obtain ⟨x,rfl,_⟩:=h
  rfl
 ·obtain ⟨x,rfl,g1,k⟩:=h
  refine ⟨_,Af (Az (Bv (Bp (Am G hr hg (Aa (pv 0) (Aa Ab (Aa (Ai Cc Ab Ab) Ac)))))) (Af (Ef Ao rfl rfl hx.mg hx.ex (Aa A4 Ac))) Av),?_⟩
  refine ⟨_,rfl,_,_,rfl,rfl,Ca _ (by decide) (by decide),x,_,_,rfl,g1,_,rfl,?_⟩
  exact iteT ⟨Dp,k H Same.rfl⟩
theorem V1 {f g CN:Addr} (F:FunB K "check_many" "check_many" L8 f ["many"]) (G:FnP P w K mg base 1 g ["value","least","most"] (Ey K)) (hg:mg "is_whole_within"=some (.ref g)) (hx:Exc K mg "NoNumber" CN):FnX P w K mg base 2 f ["many"] (Et K CN 0 (10 ^ 30)):=by
 refine F.okX T2 (fun vs H Q E h=>?_) (fun cdv A outer s H vs Q E hr h=>?_)
 ·obtain ⟨x,rfl,_⟩:=h
  rfl
 ·obtain ⟨x,rfl,g1,k⟩:=h
  refine ⟨_,Af (Az (Bv (Bp (Am G hr hg (Aa (pv 0) (Aa Ab (Aa (Ai Cc Ab Ab) Ac)))))) (Af (Ef Ao rfl rfl hx.mg hx.ex (Aa A4 Ac))) Av),?_⟩
  refine ⟨_,rfl,_,_,rfl,rfl,Ca _ (by decide) (by decide),x,_,_,rfl,g1,_,rfl,?_⟩
  exact iteT ⟨Dp,k H Same.rfl⟩
theorem R4 {f g CN:Addr} (F:FunB K "check_places" "check_places" Ht f ["places"]) (G:FnP P w K mg base 1 g ["value","least","most"] (Ey K)) (hg:mg "is_whole_within"=some (.ref g)) (hx:Exc K mg "NoNumber" CN):FnX P w K mg base 2 f ["places"] (Et K CN 1 1000):=by
 refine F.okX Nk (fun vs H Q E h=>?_) (fun cdv A outer s H vs Q E hr h=>?_)
 ·obtain ⟨x,rfl,_⟩:=h
  rfl
 ·obtain ⟨x,rfl,g1,k⟩:=h
  refine ⟨_,Af (Az (Bv (Bp (Am G hr hg (Aa (pv 0) (Aa Ab (Aa Ab Ac)))))) (Af (Ef Ao rfl rfl hx.mg hx.ex (Aa A4 Ac))) Av),?_⟩
  refine ⟨_,rfl,x,_,_,rfl,g1,_,rfl,?_⟩
  exact iteT ⟨Dp,k H Same.rfl⟩
def Tg (K:PySem.W.Frag) (H:Hp) (x y:V):Prop:=B9 K H 1 (10 ^ 20) x∨(∃ s:Int,x=.int s∧1≤s∧s≤10 ^ 20)∧B9 K H 2 (10 ^ 30) y
def Po (K:PySem.W.Frag) (CN:Addr):Sp:=fun vs H _ E=>∃ x y:V,vs=[x,y]∧Tg K H x y∧Cg H E CN
theorem Vz {f g CN:Addr} (F:FunB K "check_rule" "check_rule" L6 f ["span","part"]) (G:FnP P w K mg base 1 g ["value","least","most"] (Ey K)) (G2:FnP P w K mg base 1 g ["value","least","most"] E7) (hg:mg "is_whole_within"=some (.ref g)) (hx:Exc K mg "NoRule" CN):FnX P w K mg base 2 f ["span","part"] (Po K CN):=by
 refine F.okX Tz (fun vs H Q E h=>?_) (fun cdv A outer s H vs Q E hr h=>?_)
 ·obtain ⟨x,y,rfl,_⟩:=h
  rfl
 ·obtain ⟨x,y,rfl,g1 | ⟨⟨i,rfl,i1,i2⟩,g1⟩,k⟩:=h
  ·refine ⟨_,Ad (Az (Bv (Bp (Am G hr hg (Aa (pv 0) (Aa Ab (Aa (Ai Cc Ab Ab) Ac)))))) (Af (Ef Ao rfl rfl hx.mg hx.ex (Aa A4 Ac))) Av) A2,?_⟩
   refine ⟨_,rfl,_,_,rfl,rfl,Ca _ (by decide) (by decide),x,_,_,rfl,g1,_,rfl,?_⟩
   exact iteT ⟨Dp,k H Same.rfl⟩
  ·refine ⟨_,Ad (Az (Bv (Bp (Am G2 hr hg (Aa (pv 0) (Aa Ab (Aa (Ai Cc Ab Ab) Ac)))))) A2 Av)
    (Af (Az (Bv (Bp (Am G hr hg (Aa (pv 1) (Aa Ab (Aa (Ai Cc Ab Ab) Ac)))))) (Af (Ef Ao rfl rfl hx.mg hx.ex (Aa A4 Ac))) Av)),?_⟩
   refine ⟨_,rfl,_,_,rfl,rfl,Ca _ (by decide) (by decide),i,_,_,rfl,_,rfl,?_⟩
   rw [p20,decide_eq_true (show (1:Int)≤i from i1),decide_eq_true (show i≤100000000000000000000 by omega)]
   refine iteF ?_
   refine ⟨_,rfl,_,_,rfl,rfl,Ca _ (by decide) (by decide),y,_,_,rfl,g1,_,rfl,?_⟩
   exact iteT ⟨Dp,k H Same.rfl⟩
end
end Lk

namespace Lk
open PySem L2
section
variable {P:Program} {w:World} {K:PySem.W.Frag} {mg:Str->Option Value} {base:Heap} {C CN CM CR:Addr}
def spM1 (bad:Hp->V->Prop) (CN:Addr):Sp:=fun vs H _ E=>∃ (p:Addr) (v:V),vs=[.ref p,v]∧bad H v∧Cg H E CN
theorem Ue {f g:Addr} (F:FunB K "count_of" "Book.count_of" Js f ["self","name"]) (G:FnX P w K mg base 2 g ["name"] (Eb K CN)) (hg:mg "check_name"=some (.ref g)):FnX P w K mg base 4 f ["self","name"] (spM1 (Bh K) CN):=by
 refine F.okX Pr (fun vs H Q E h=>?_) (fun cdv A outer s H vs Q E hr h=>?_)
 ·obtain ⟨p,v,rfl,_⟩:=h
  rfl
 ·obtain ⟨p,v,rfl,g1,k⟩:=h
  exact ⟨_,Ad (Ak (Bx Ao G (hr.mono (by decide)) hg (Aa (pv 1) Ac))) A2,_,rfl,v,rfl,g1,k⟩
theorem Vw {f g:Addr} (F:FunB K "last_of" "Book.last_of" L4 f ["self","name"]) (G:FnX P w K mg base 2 g ["name"] (Eb K CN)) (hg:mg "check_name"=some (.ref g)):FnX P w K mg base 4 f ["self","name"] (spM1 (Bh K) CN):=by
 refine F.okX Ty (fun vs H Q E h=>?_) (fun cdv A outer s H vs Q E hr h=>?_)
 ·obtain ⟨p,v,rfl,_⟩:=h
  rfl
 ·obtain ⟨p,v,rfl,g1,k⟩:=h
  exact ⟨_,Ad (Ak (Bx Ao G (hr.mono (by decide)) hg (Aa (pv 1) Ac))) A2,_,rfl,v,rfl,g1,k⟩
theorem Pf {f g:Addr} (F:FunB K "begin_drop" "Book.begin_drop" Fc f ["self","name"]) (G:FnX P w K mg base 2 g ["name"] (Eb K CN)) (hg:mg "check_name"=some (.ref g)):FnX P w K mg base 4 f ["self","name"] (spM1 (Bh K) CN):=by
 refine F.okX K7 (fun vs H Q E h=>?_) (fun cdv A outer s H vs Q E hr h=>?_)
 ·obtain ⟨p,v,rfl,_⟩:=h
  rfl
 ·obtain ⟨p,v,rfl,g1,k⟩:=h
  exact ⟨_,Ad (Ak (Bx Ao G (hr.mono (by decide)) hg (Aa (pv 1) Ac))) A2,_,rfl,v,rfl,g1,k⟩
theorem cM {f g:Addr} (F:FunB K "rest" "Book.rest" Xd f ["self","steps"]) (G:FnX P w K mg base 2 g ["steps"] (Et K CM 0 (10 ^ 30))) (hg:mg "check_steps"=some (.ref g)):FnX P w K mg base 4 f ["self","steps"] (spM1 (fun H=>B9 K H 0 (10 ^ 30)) CM):=by
 refine F.okX aY (fun vs H Q E h=>?_) (fun cdv A outer s H vs Q E hr h=>?_)
 ·obtain ⟨p,v,rfl,_⟩:=h
  rfl
 ·obtain ⟨p,v,rfl,g1,k⟩:=h
  exact ⟨_,Ad (Ak (Bx Ao G (hr.mono (by decide)) hg (Aa (pv 1) Ac))) A2,_,rfl,v,rfl,g1,k⟩
theorem cI {f g:Addr} (F:FunB K "has" "Shelf.has" bI f ["self","name"]) (G:FnX P w K mg base 2 g ["name"] (Eb K CN)) (hg:mg "check_name"=some (.ref g)):FnX P w K mg base 4 f ["self","name"] (spM1 (Bh K) CN):=by
 refine F.okX jG (fun vs H Q E h=>?_) (fun cdv A outer s H vs Q E hr h=>?_)
 ·obtain ⟨p,v,rfl,_⟩:=h
  rfl
 ·obtain ⟨p,v,rfl,g1,k⟩:=h
  exact ⟨_,Ad (Ak (Bx Ao G (hr.mono (by decide)) hg (Aa (pv 1) Ac))) A2,_,rfl,v,rfl,g1,k⟩
theorem Uc {f g:Addr} (F:FunB K "names_at" "Row.names_at" T4 f ["self","places"]) (G:FnX P w K mg base 2 g ["places"] (Et K CM 1 1000)) (hg:mg "check_places"=some (.ref g)):FnX P w K mg base 4 f ["self","places"] (spM1 (fun H=>B9 K H 1 1000) CM):=by
 refine F.okX (N:=["self","places"]) ⟨rfl,rfl,rfl,by decide +kernel,rfl,by decide +kernel,by decide +kernel⟩ (fun vs H Q E h=>?_) (fun cdv A outer s H vs Q E hr h=>?_)
 ·obtain ⟨p,v,rfl,_⟩:=h
  rfl
 ·obtain ⟨p,v,rfl,g1,k⟩:=h
  exact ⟨_,Ad (Ak (Bx Ao G (hr.mono (by decide)) hg (Aa (pv 1) Ac))) A2,_,rfl,v,rfl,g1,k⟩
theorem Yv {f g:Addr} (F:FunB K "met_by" "Row.met_by" Rk f ["self","places"]) (G:FnX P w K mg base 2 g ["places"] (Et K CM 1 1000)) (hg:mg "check_places"=some (.ref g)):FnX P w K mg base 4 f ["self","places"] (spM1 (fun H=>B9 K H 1 1000) CM):=by
 refine F.okX Xc (fun vs H Q E h=>?_) (fun cdv A outer s H vs Q E hr h=>?_)
 ·obtain ⟨p,v,rfl,_⟩:=h
  rfl
 ·obtain ⟨p,v,rfl,g1,k⟩:=h
  exact ⟨_,Ad (Ak (Bx Ao G (hr.mono (by decide)) hg (Aa (pv 1) Ac))) A2,_,rfl,v,rfl,g1,k⟩
theorem Vx {f g:Addr} (F:FunB K "enough" "Row.enough" Rn f ["self","many"]) (G:FnX P w K mg base 2 g ["many"] (Et K CM 0 (10 ^ 30))) (hg:mg "check_many"=some (.ref g)):FnX P w K mg base 4 f ["self","many"] (spM1 (fun H=>B9 K H 0 (10 ^ 30)) CM):=by
 refine F.okX bC (fun vs H Q E h=>?_) (fun cdv A outer s H vs Q E hr h=>?_)
 ·obtain ⟨p,v,rfl,_⟩:=h
  rfl
 ·obtain ⟨p,v,rfl,g1,k⟩:=h
  exact ⟨_,Ad (Ak (Bx Ao G (hr.mono (by decide)) hg (Aa (pv 1) Ac))) A2,_,rfl,v,rfl,g1,k⟩
def eY (K:PySem.W.Frag) (H:Hp) (CN CM:Addr) (x y:V) (C:Addr):Prop:=(Bh K H x∧C=CN)∨((∃ n,x=.str n∧A5 n)∧B9 K H 1 (10 ^ 30) y∧C=CM)
def En (K:PySem.W.Frag) (CN CM:Addr):Sp:=fun vs H _ E=>∃ (p:Addr) (x y:V) (C:Addr),vs=[.ref p,x,y]∧eY K H CN CM x y C∧Cg H E C
theorem R5 {f gn gw:Addr} (F:FunB K "begin_ask" "Book.begin_ask" Hu f ["self","name","weight"]) (Gn:FnX P w K mg base 2 gn ["name"] (Eb K CN)) (Gn2:FnP P w K mg base 2 gn ["name"] Ez) (hgn:mg "check_name"=some (.ref gn)) (Gw:FnX P w K mg base 2 gw ["weight"] (Et K CM 1 (10 ^ 30))) (hgw:mg "check_weight"=some (.ref gw)) :
  FnX P w K mg base 4 f ["self","name","weight"] (En K CN CM):=by
 refine F.okX Nl (fun vs H Q E h=>?_) (fun cdv A outer s H vs Q E hr h=>?_)
 ·obtain ⟨p,x,y,C,rfl,_⟩:=h
  rfl
 ·obtain ⟨p,x,y,C,rfl,⟨g1,rfl⟩ | ⟨⟨n,rfl,gn1⟩,g1,rfl⟩,k⟩:=h
  ·exact ⟨_,Ad (Ak (Bx Ao Gn (hr.mono (by decide)) hgn (Aa (pv 1) Ac))) A2,_,rfl,x,rfl,g1,k⟩
  ·exact ⟨_,Ad (Ak (Am Gn2 (hr.mono (by decide)) hgn (Aa (pv 1) Ac))) (Ad (Ak (Bx Ao Gw (hr.mono (by decide)) hgw (Aa (pv 2) Ac))) A2),
    _,rfl,n,rfl,gn1,fun H1 Sm=>⟨_,rfl,y,rfl,g1.same Sm,k.next Sm⟩⟩
def Q6 (K:PySem.W.Frag) (C CN CM:Addr):Sp:=fun vs H _ E=>∃ (p dx:Addr) (fs:List (Str×V)) (x y:V) (D:Addr),vs=[.ref p,x,y]∧H p=some (.ins C dx fs)∧fs.lookup ("begin_ask":Str)=none∧eY K H CN CM x y D∧Cg H E D
theorem gS {f gb:Addr} {fd:FuncData} {ds:List Value} (F:FunD K "ask" "Book.ask" sAsk f fd ds) (cl:Cls K C) (Gb:FnX P w K mg base 4 gb ["self","name","weight"] (En K CN CM)) (Mb:Meth K C "begin_ask" gb):FnOk P w K mg base (CX1 P w) 6 f fd ["self","name","weight"] (Q6 K C CN CM):=by
 refine F.okX bE (fun vs H Q E h=>?_) (fun cdv A outer s H vs Q E hr h=>?_)
 ·obtain ⟨p,dx,fs,x,y,D,rfl,_⟩:=h
  rfl
 ·obtain ⟨p,dx,fs,x,y,D,rfl,h1,nb,g1,k⟩:=h
  exact ⟨_,Ad (Ak (Cd Ao (pv 0) cl Mb Gb (hr.mono (by decide)) (Aa (pv 1) (Aa (pv 2) Ac)))) A2,_,rfl,p,dx,fs,rfl,h1,nb,_,rfl,_,rfl,p,x,y,D,rfl,g1,k⟩
theorem cL {f gb:Addr} {fd:FuncData} {ds:List Value} (F:FunD K "ask" "Shelf.ask" Jp f fd ds) (cl:Cls K C) (Gb:FnX P w K mg base 4 gb ["self","name","weight"] (En K CN CM)) (Mb:Meth K C "begin_ask" gb):FnOk P w K mg base (CX1 P w) 6 f fd ["self","name","weight"] (Q6 K C CN CM):=by
 refine F.okX Ve (fun vs H Q E h=>?_) (fun cdv A outer s H vs Q E hr h=>?_)
 ·obtain ⟨p,dx,fs,x,y,D,rfl,_⟩:=h
  rfl
 ·obtain ⟨p,dx,fs,x,y,D,rfl,h1,nb,g1,k⟩:=h
  exact ⟨_,Ad (Ak (Cd Ao (pv 0) cl Mb Gb (hr.mono (by decide)) (Aa (pv 1) (Aa (pv 2) Ac)))) A2,_,rfl,p,dx,fs,rfl,h1,nb,_,rfl,_,rfl,p,x,y,D,rfl,g1,k⟩
theorem cS {f gb:Addr} {fd:FuncData} {ds:List Value} (F:FunD K "ask" "Row.ask" Jq f fd ds) (cl:Cls K C) (Gb:FnX P w K mg base 4 gb ["self","name","weight"] (En K CN CM)) (Mb:Meth K C "begin_ask" gb):FnOk P w K mg base (CX1 P w) 6 f fd ["self","name","weight"] (Q6 K C CN CM):=by
 refine F.okX Vf (fun vs H Q E h=>?_) (fun cdv A outer s H vs Q E hr h=>?_)
 ·obtain ⟨p,dx,fs,x,y,D,rfl,_⟩:=h
  rfl
 ·obtain ⟨p,dx,fs,x,y,D,rfl,h1,nb,g1,k⟩:=h
  exact ⟨_,Ad (Ak (Cd Ao (pv 0) cl Mb Gb (hr.mono (by decide)) (Aa (pv 1) (Aa (pv 2) Ac)))) A2,_,rfl,p,dx,fs,rfl,h1,nb,_,rfl,_,rfl,p,x,y,D,rfl,g1,k⟩
def L3 (K:PySem.W.Frag) (C CN:Addr):Sp:=fun vs H _ E=>∃ (p dx:Addr) (fs:List (Str×V)) (x:V),vs=[.ref p,x]∧H p=some (.ins C dx fs)∧fs.lookup ("begin_drop":Str)=none∧Bh K H x∧Cg H E CN
theorem cZ {f gb:Addr} (F:FunB K "drop" "Book.drop" Xe f ["self","name"]) (cl:Cls K C) (Gb:FnX P w K mg base 4 gb ["self","name"] (spM1 (Bh K) CN)) (Mb:Meth K C "begin_drop" gb):FnX P w K mg base 6 f ["self","name"] (L3 K C CN):=by
 refine F.okX bD (fun vs H Q E h=>?_) (fun cdv A outer s H vs Q E hr h=>?_)
 ·obtain ⟨p,dx,fs,x,rfl,_⟩:=h
  rfl
 ·obtain ⟨p,dx,fs,x,rfl,h1,nb,g1,k⟩:=h
  exact ⟨_,Ad (Ak (Cd Ao (pv 0) cl Mb Gb (hr.mono (by decide)) (Aa (pv 1) Ac))) A2,_,rfl,p,dx,fs,rfl,h1,nb,_,rfl,p,x,rfl,g1,k⟩
theorem Yr {f gb:Addr} (F:FunB K "drop" "Shelf.drop" Rg f ["self","name"]) (cl:Cls K C) (Gb:FnX P w K mg base 4 gb ["self","name"] (spM1 (Bh K) CN)) (Mb:Meth K C "begin_drop" gb):FnX P w K mg base 6 f ["self","name"] (L3 K C CN):=by
 refine F.okX Q8 (fun vs H Q E h=>?_) (fun cdv A outer s H vs Q E hr h=>?_)
 ·obtain ⟨p,dx,fs,x,rfl,_⟩:=h
  rfl
 ·obtain ⟨p,dx,fs,x,rfl,h1,nb,g1,k⟩:=h
  exact ⟨_,Ad (Ak (Cd Ao (pv 0) cl Mb Gb (hr.mono (by decide)) (Aa (pv 1) Ac))) A2,_,rfl,p,dx,fs,rfl,h1,nb,_,rfl,p,x,rfl,g1,k⟩
theorem Yu {f gb:Addr} (F:FunB K "drop" "Row.drop" Rj f ["self","name"]) (cl:Cls K C) (Gb:FnX P w K mg base 4 gb ["self","name"] (spM1 (Bh K) CN)) (Mb:Meth K C "begin_drop" gb):FnX P w K mg base 6 f ["self","name"] (L3 K C CN):=by
 refine F.okX Q9 (fun vs H Q E h=>?_) (fun cdv A outer s H vs Q E hr h=>?_)
 ·obtain ⟨p,dx,fs,x,rfl,_⟩:=h
  rfl
 ·obtain ⟨p,dx,fs,x,rfl,h1,nb,g1,k⟩:=h
  exact ⟨_,Ad (Ak (Cd Ao (pv 0) cl Mb Gb (hr.mono (by decide)) (Aa (pv 1) Ac))) A2,_,rfl,p,dx,fs,rfl,h1,nb,_,rfl,p,x,rfl,g1,k⟩
def Hm (K:PySem.W.Frag) (CR:Addr):Sp:=fun vs H _ E=>∃ (p:Addr) (x y:V),vs=[.ref p,x,y]∧Tg K H x y∧Cg H E CR
theorem Ud {f g:Addr} (F:FunB K "__init__" "Book.__init__" T5 f ["self","span","part"]) (G:FnX P w K mg base 2 g ["span","part"] (Po K CR)) (hg:mg "check_rule"=some (.ref g)):FnX P w K mg base 4 f ["self","span","part"] (Hm K CR):=by
 refine F.okX bB (fun vs H Q E h=>?_) (fun cdv A outer s H vs Q E hr h=>?_)
 ·obtain ⟨p,x,y,rfl,_⟩:=h
  rfl
 ·obtain ⟨p,x,y,rfl,g1,k⟩:=h
  exact ⟨_,Ad (Ak (Bx Ao G (hr.mono (by decide)) hg (Aa (pv 1) (Aa (pv 2) Ac)))) A2,_,rfl,_,rfl,x,y,rfl,g1,k⟩
theorem Yt {f g C0:Addr} (F:FunB K "__init__" "Row.__init__" Ri f ["self","span","part"]) (G:FnX P w K mg base 4 g ["self","span","part"] (Hm K CR)) (cm:Pb K C0 "__init__" g) (hc:mg "Book"=some (.ref C0)):FnX P w K mg base 6 f ["self","span","part"] (Hm K CR):=by
 refine F.okX Xa (fun vs H Q E h=>?_) (fun cdv A outer s H vs Q E hr h=>?_)
 ·obtain ⟨p,x,y,rfl,_⟩:=h
  rfl
 ·obtain ⟨p,x,y,rfl,g1,k⟩:=h
  exact ⟨_,Ad (Ak (Xi Ao hc cm G (hr.mono (by decide)) (Aa (pv 0) (Aa (pv 1) (Aa (pv 2) Ac))))) A2,_,rfl,_,rfl,_,rfl,p,x,y,rfl,g1,k⟩
def Tp (K:PySem.W.Frag) (CM CR:Addr):Sp:=fun vs H _ E=>∃ (p:Addr) (z x y:V),vs=[.ref p,z,x,y]∧((B9 K H 1 1000 z∧Cg H E CM)∨((∃ i:Int,z=.int i∧1≤i∧i≤1000)∧Tg K H x y∧Cg H E CR))
theorem Yq {f gp gi C0:Addr} (F:FunB K "__init__" "Shelf.__init__" Rf f ["self","places","span","part"]) (Gp:FnX P w K mg base 2 gp ["places"] (Et K CM 1 1000)) (Gp2:FnP P w K mg base 2 gp ["places"] E9) (hgp:mg "check_places"=some (.ref gp))
  (G:FnX P w K mg base 4 gi ["self","span","part"] (Hm K CR)) (cm:Pb K C0 "__init__" gi) (hc:mg "Book"=some (.ref C0)):FnX P w K mg base 6 f ["self","places","span","part"] (Tp K CM CR):=by
 refine F.okX W9 (fun vs H Q E h=>?_) (fun cdv A outer s H vs Q E hr h=>?_)
 ·obtain ⟨p,z,x,y,rfl,_⟩:=h
  rfl
 ·obtain ⟨p,z,x,y,rfl,⟨g1,k⟩ | ⟨⟨i,rfl,i1,i2⟩,g1,k⟩⟩:=h
  ·exact ⟨_,Ad (Ak (Bx Ao Gp (hr.mono (by decide)) hgp (Aa (pv 1) Ac))) A2,_,rfl,z,rfl,g1,k⟩
  ·exact ⟨_,Ad (Ak (Am Gp2 (hr.mono (by decide)) hgp (Aa (pv 1) Ac))) (Ad (Ak (Xi Ao hc cm G (hr.mono (by decide)) (Aa (pv 0) (Aa (pv 2) (Aa (pv 3) Ac))))) A2),
    _,rfl,i,rfl,i1,i2,_,rfl,_,rfl,_,rfl,p,x,y,rfl,g1,k⟩
end
end Lk

namespace Lk
open PySem L2
abbrev Nx:Stmt:=top 31
abbrev Iw:Stmt:=top 32
abbrev Iu:Stmt:=top 33
abbrev Nq:Stmt:=top 34
abbrev Nr:Stmt:=top 35
abbrev sDue:Stmt:=top 36
abbrev Nu:Stmt:=top 37
abbrev Rq:Stmt:=top 38
abbrev Rp:Stmt:=top 39
abbrev bH:Stmt:=top 40
abbrev Kl:Stmt:=top 41
abbrev sLaw:Stmt:=top 42
theorem kitn (K:PySem.W.Frag):(PySem.W.kitOne K (.type "int") (.type "str")=some false∧PySem.W.kitOne K (.type "NoneType") (.type "str")=some false∧PySem.W.kitOne K (.type "bool") (.type "str")=some false)∧(PySem.W.kitOne K (.type "list") (.type "str")=some false∧PySem.W.kitOne K (.type "tuple") (.type "str")=some false∧PySem.W.kitOne K (.type "dict") (.type "str")=some false):=by
 refine ⟨⟨?_,?_,?_⟩,?_,?_,?_⟩ <;> first | rfl | decide +kernel
theorem kitm (K:PySem.W.Frag):(PySem.W.kitOne K (.type "NoneType") (.type "bool")=some false∧PySem.W.kitOne K (.type "NoneType") (.type "int")=some false)∧(PySem.W.kitOne K (.type "str") (.type "bool")=some false∧PySem.W.kitOne K (.type "str") (.type "int")=some false)∧PySem.W.kitOne K (.type "list") (.type "bool")=some false∧PySem.W.kitOne K (.type "list") (.type "int")=some false:=by
 refine ⟨⟨?_,?_⟩,⟨?_,?_⟩,?_,?_⟩ <;> first | rfl | decide +kernel
theorem Tc {a b:Str} {c:Nat} (h:c∈a.cps.toList∨c∈b.cps.toList) (hc:c<32):¬ A5 (a++b):=fun g=>by
 have:=(g.2.2 c (by rw [PySem.Str.cps_append,Array.toList_append,List.mem_append]; exact h)).1
 omega
theorem eU {xs:List V} {i:Int} (h0:0≤i) (h1:i<xs.length):∃ v,atI xs i=some v∧v∈xs:=by
 obtain ⟨j,rfl⟩:=Int.eq_ofNat_of_zero_le h0
 have hj:j<xs.length:=by omega
 exact ⟨xs[j],D8 (by simp [hj]),List.getElem_mem _⟩
section
variable {P:Program} {w:World} {K:PySem.W.Frag} {mg:Str->Option Value} {base:Heap}
def Kf (K:PySem.W.Frag):Sp:=fun vs H Q _=>∃ (c:Int) (g:Str),vs=[.int c,.str g]∧A5 g∧∀ v H',Same H H'->Bh K H' v->Q v H'
theorem Kk:Al ["_law_cell","_law_good","_law_some"] ["_law_cell","_law_good"] (defScope Nx):=⟨rfl,rfl,rfl,by decide +kernel,rfl,by decide +kernel,by decide +kernel⟩
theorem V3 {f:Addr} (F:FunB K "_law_bad_name" "_law_bad_name" Nx f ["_law_cell","_law_good"]):FnP P w K mg base 1 f ["_law_cell","_law_good"] (Kf K):=by
 refine F.ok Kk (fun vs H Q E h=>?_) (fun cdv A outer s H vs Q E hr h=>?_)
 ·obtain ⟨c,g,rfl,_⟩:=h
  rfl
 ·obtain ⟨c,g,rfl,gn,k⟩:=h
  refine ⟨_,Ad (A3 (i:=2) Kk.nd rfl (Or.inl rfl) (C5 (Aa A4 (Aa (Dg F5 (Ai gF (pv 1) Ab) D6 (D5 Ab)) (Aa (Ai C6 (Dg F5 (pv 1) D6 (D5 Ab)) A4) (Aa (Ai C6 A4 (Dg F5 (pv 1) D6 (D5 Ab)))
    (Aa (Ai C6 (Ai C6 (Dg F5 (pv 1) D6 (D5 Ab)) A4) (Dg F5 (pv 1) D6 (D5 Ab))) Ac)))))))
   (Ad (A3 (i:=2) Kk.nd rfl (Or.inl rfl) (Ai jS (pv 2) (C5 (Aa Ab (Aa Ab (Aa D0 (Aa C3 (Aa (C5 (Aa (pv 1) Ac)) (Aa (Gj (Aa (pv 1) Ac)) (Aa Gk Ac)))))))))
   ) (Af (As (B7 Bq (pv 2) (Ai Ba.letter (pv 0) Ab) (fun _ _=>rfl))))),?_⟩
  have gl:g.length≤sizeLine:=Nat.le_trans gn.2.1 (by decide)
  have sl:∀ j:Int,(Txt.slice g none (some j)).length≤40:=fun j=>Nat.le_trans (Txt.slice_le g _ _) gn.2.1
  have nl:("\n":Str).length=1:=by decide
  have tl:("\t":Str).length=1:=by decide
  have big:100≤sizeLine:=by decide
  have rl:=T7 g 41
  have g1:=gn.1
  have g2:=gn.2.1
  refine ⟨_,rfl,g,41,rfl,rfl,by decide,by decide,gn.1,by omega,_,rfl,_,rfl,by rw [show Int.toNat 41=41 from rfl,rl]; exact Nat.le_trans (Nat.mul_le_mul_left _ gn.2.1) (by decide),?_⟩
  refine ⟨_,rfl,_,rfl,_,rfl,gl,_,_,rfl,rfl,by have:=sl 39; omega,?_⟩
  refine ⟨_,rfl,_,rfl,_,rfl,gl,_,_,rfl,rfl,by have:=sl 39; omega,?_⟩
  refine ⟨_,rfl,_,rfl,_,rfl,gl,_,_,rfl,rfl,by have:=sl 19; omega,_,rfl,_,rfl,_,rfl,gl,_,_,rfl,rfl,by have:=sl 19; have:=sl 20; rw [PySem.Str.length_append]; omega,?_⟩
  have b1:¬ A5 ("":Str):=fun z=>absurd z.1 (by decide)
  have b2:(Txt.slice (repS g 41) none (some 41)).length=41:=by
   have e:=Tv (x:=repS g 41) (j:=41) (by decide) (by rw [rl]; omega)
   rw [Dc,e,List.length_take,← Dc,rl]
   show min 41 (41 * g.length)=41
   omega
  have c10:(10:Nat)∈("\n":Str).cps.toList:=by decide
  have c9:(9:Nat)∈("\t":Str).cps.toList:=by decide
  have b3:Bh K H (.str (Txt.slice g none (some 39)++("\n":Str))):=.txt _ (Tc (.inr c10) (by decide)) (by rw [PySem.Str.length_append]; have:=sl 39; omega)
  have b4:Bh K H (.str (("\t":Str)++Txt.slice g none (some 39))):=.txt _ (Tc (.inl c9) (by decide)) (by rw [PySem.Str.length_append]; have:=sl 39; omega)
  have b5:Bh K H (.str (Txt.slice g none (some 19)++("\n":Str)++Txt.slice g none (some 20))):=.txt _ (Tc (c:=10) (.inl (by rw [PySem.Str.cps_append,Array.toList_append,List.mem_append]; exact .inr c10)) (by decide)) (by rw [PySem.Str.length_append,PySem.Str.length_append]; have:=sl 19; have:=sl 20; omega)
  have b0:Bh K H (.str ("":Str)):=.txt _ b1 (by decide)
  have b2':Bh K H (.str (Txt.slice (repS g 41) none (some 41))):=.txt _ (fun z=>absurd z.2.1 (by omega)) (by omega)
  have all5:∀ v∈[V.str ("":Str),.str (Txt.slice (repS g 41) none (some 41)),.str (Txt.slice g none (some 39)++("\n":Str)),.str (("\t":Str)++Txt.slice g none (some 39)),.str (Txt.slice g none (some 19)++("\n":Str)++Txt.slice g none (some 20))],Bh K H v:=by
   intro v hv
   simp only [List.mem_cons,List.not_mem_nil,or_false] at hv
   rcases hv with rfl | rfl | rfl | rfl | rfl
   ·exact b0
   ·exact b2'
   ·exact b3
   ·exact b4
   ·exact b5
  have len5:[V.str ("":Str),.str (Txt.slice (repS g 41) none (some 41)),.str (Txt.slice g none (some 39)++("\n":Str)),.str (("\t":Str)++Txt.slice g none (some 39)),.str (Txt.slice g none (some 19)++("\n":Str)++Txt.slice g none (some 20))].length=5:=rfl
  refine ⟨by show 5≤sizeLine; omega,fun p1 hp1=>?_⟩
  have S1:=Same.upd (o:=HO.lst [V.str ("":Str),.str (Txt.slice (repS g 41) none (some 41)),.str (Txt.slice g none (some 39)++("\n":Str)),.str (("\t":Str)++Txt.slice g none (some 39)),.str (Txt.slice g none (some 19)++("\n":Str)++Txt.slice g none (some 20))]) hp1
  refine ⟨_,rfl,_,rfl,by show 1≤sizeLine; omega,fun p2 hp2=>⟨_,rfl,by show 1≤sizeLine; omega,fun p3 hp3 p4 hp4=>⟨by show 7≤sizeLine; omega,fun p5 hp5=>?_⟩⟩⟩
  have S2:=Same.upd (o:=HO.lst [V.str g]) hp2
  have S3:=Same.upd (o:=HO.tup [V.str g]) hp3
  have S4:=Same.upd (o:=HO.dK []) hp4
  have S5:=Same.upd (o:=HO.lst [V.int 7,.int 0,.non,.bl true,.ref p2,.ref p3,.ref p4]) hp5
  refine ⟨p1,p5,_,_,rfl,rfl,S5 _ _ (S4 _ _ (S3 _ _ (S2 _ _ Ag))),Ag,by show 5+7≤sizeLine; omega,fun p6 hp6=>?_⟩
  refine ⟨_,rfl,_,rfl,_,_,rfl,rfl,(by show (0:Int)<12; decide),fun ix hix=>?_⟩
  obtain ⟨v,hat,hv⟩:=eU (xs:=[V.str ("":Str),.str (Txt.slice (repS g 41) none (some 41)),.str (Txt.slice g none (some 39)++("\n":Str)),.str (("\t":Str)++Txt.slice g none (some 39)),.str (Txt.slice g none (some 19)++("\n":Str)++Txt.slice g none (some 20))]++[V.int 7,.int 0,.non,.bl true,.ref p2,.ref p3,.ref p4]) (i:=ix) (by omega) (by show ix<12; omega)
  refine ⟨p6,_,ix,v,rfl,rfl,SqL.of Ag,hat,?_⟩
  have S6:=Same.upd (o:=HO.lst ([V.str ("":Str),.str (Txt.slice (repS g 41) none (some 41)),.str (Txt.slice g none (some 39)++("\n":Str)),.str (("\t":Str)++Txt.slice g none (some 39)),.str (Txt.slice g none (some 19)++("\n":Str)++Txt.slice g none (some 20))]++[V.int 7,.int 0,.non,.bl true,.ref p2,.ref p3,.ref p4])) hp6
  have SS:=((((S1.trans S2).trans S3).trans S4).trans S5).trans S6
  refine k v _ SS ?_
  obtain ⟨⟨k1,k2,k3⟩,k4,k5,k6⟩:=kitn K
  rcases List.mem_append.mp hv with hv | hv
  ·exact (all5 v hv).same SS
  ·simp only [List.mem_cons,List.not_mem_nil,or_false] at hv
   rcases hv with rfl | rfl | rfl | rfl | rfl | rfl | rfl
   ·exact .oth (.int 7) k1
   ·exact .oth (.int 0) k1
   ·exact .oth .non k2
   ·exact .oth (.bl true) k3
   ·exact .oth (.lst (S6 _ _ (S5 _ _ (S4 _ _ (S3 _ _ Ag))))) k4
   ·exact .oth (.tup (S6 _ _ (S5 _ _ (S4 _ _ Ag)))) k5
   ·exact .oth (.dK (S6 _ _ (S5 _ _ Ag))) k6
def Eo (K:PySem.W.Frag):Sp:=fun vs H Q _=>∃ (c lo hi:Int),vs=[.int c,.int lo,.int hi]∧0≤lo∧lo≤2∧∀ v H',Same H H'->B9 K H' lo hi v->Q v H'
theorem F9:Al ["_law_cell","_law_least","_law_most","_law_far","_law_some"] ["_law_cell","_law_least","_law_most"] (defScope Iw):=⟨rfl,rfl,rfl,by decide +kernel,rfl,by decide +kernel,by decide +kernel⟩
theorem R6 {f:Addr} (F:FunB K "_law_bad_number" "_law_bad_number" Iw f ["_law_cell","_law_least","_law_most"]) (B:Blt mg):FnP P w K mg base 1 f ["_law_cell","_law_least","_law_most"] (Eo K):=by
 refine F.ok F9 (fun vs H Q E h=>?_) (fun cdv A outer s H vs Q E hr h=>?_)
 ·obtain ⟨c,lo,hi,rfl,_⟩:=h
  rfl
 ·obtain ⟨c,lo,hi,rfl,l0,l2,k⟩:=h
  refine ⟨_,Ad (A3 (i:=3) F9.nd rfl (Or.inl rfl) (Ai Bj.letter0 Ab (Ai Ba (Ai A9 (pv 0) Ab) (Ai Cc Ab Ab))))
   (Ad (A3 (i:=4) F9.nd rfl (Or.inl rfl) (C5 (Aa (Ai Kp (pv 1) Ab) (Aa (Ai Bj (pv 2) Ab) (Aa (Ai Kp (pv 1) (pv 3)) (Aa (Ai Bj (pv 2) (pv 3)) (Aa C3 (Aa C3 (Aa D0 (Aa (Hw Tb rfl B.str PyProof.Rows.boot_str (Aa (pv 1) Ac)) (Aa (C5 (Aa (pv 1) Ac)) Ac)))))))))))
   (Af (As (B7 Bq (pv 4) (Ai Ba.letter (pv 0) Ab) (fun _ _=>rfl))))),?_⟩
  have big:100≤sizeLine:=by decide
  refine ⟨_,rfl,_,_,rfl,rfl,⟨by decide,by decide⟩,_,_,rfl,rfl,Ca _ (by decide) (by decide),_,_,rfl,rfl,(by show (0:Int)<10 ^ Int.toNat 30; decide),_,_,rfl,rfl,fun far hfar=>?_⟩
  have f1:1≤far:=by
   rw [hfar,p30]
   omega
  refine ⟨_,rfl,_,_,rfl,rfl,_,rfl,_,_,rfl,rfl,_,rfl,_,rfl,_,_,rfl,rfl,_,rfl,_,rfl,_,_,rfl,rfl,?_⟩
  refine ⟨_,rfl,lo,rfl,?_,_,rfl,by show 1≤sizeLine; omega,fun p1 hp1=>⟨by show 9≤sizeLine; omega,fun p2 hp2=>?_⟩⟩
  ·have:lo=0∨lo=1∨lo=2:=by omega
   rcases this with rfl | rfl | rfl <;> decide
  have S1:=Same.upd (o:=HO.lst [V.int lo]) hp1
  refine ⟨_,rfl,_,rfl,_,_,rfl,rfl,(by show (0:Int)<9; decide),fun ix hix=>?_⟩
  obtain ⟨v,hat,hv⟩:=eU (xs:=[V.int (lo - 1),.int (hi+1),.int (lo - far),.int (hi+far),.bl true,.bl false,.non,.str (toString lo),.ref p1]) (i:=ix) (by omega) (by show ix<9; omega)
  have S2:=Same.upd (o:=HO.lst [V.int (lo - 1),.int (hi+1),.int (lo - far),.int (hi+far),.bl true,.bl false,.non,.str (toString lo),.ref p1]) hp2
  refine ⟨p2,_,ix,v,rfl,rfl,SqL.of Ag,hat,?_⟩
  refine k v _ (S1.trans S2) ?_
  obtain ⟨⟨k1,k2⟩,⟨k3,k4⟩,k5,k6⟩:=kitm K
  simp only [List.mem_cons,List.not_mem_nil,or_false] at hv
  rcases hv with rfl | rfl | rfl | rfl | rfl | rfl | rfl | rfl | rfl
  ·exact .int _ (by omega)
  ·exact .int _ (by omega)
  ·exact .int _ (by omega)
  ·exact .int _ (by omega)
  ·exact .bl _
  ·exact .bl _
  ·exact .oth .non k1 k2
  ·exact .oth (.str _) k3 k4
  ·exact .oth (.lst (S2 _ _ Ag)) k5 k6
end
end Lk

namespace Lk
open PySem L2
section
variable {P:Program} {w:World} {K:PySem.W.Frag} {mg:Str->Option Value} {base:Heap} {C CN CM CR:Addr}
structure Thg (P:Program) (w:World) (K:PySem.W.Frag) (mg:Str->Option Value) (base:Heap) (C CN CM:Addr):Prop where
 cl:Cls K C
 ask:∃ (ga:Addr) (fd:FuncData) (t0:Tok),FnOk P w K mg base (CX1 P w) 6 ga fd ["self","name","weight"] (Q6 K C CN CM)∧B8 K fd ["self","name","weight"] []∧B8 K fd ["self","name","weight"] [.int 1 t0]∧Meth K C "ask" ga
 drop:∃ g,FnX P w K mg base 6 g ["self","name"] (L3 K C CN)∧Meth K C "drop" g
 cnt:∃ g,FnX P w K mg base 4 g ["self","name"] (spM1 (Bh K) CN)∧Meth K C "count_of" g
 lst:∃ g,FnX P w K mg base 4 g ["self","name"] (spM1 (Bh K) CN)∧Meth K C "last_of" g
 rst:∃ g,FnX P w K mg base 4 g ["self","steps"] (spM1 (fun H=>B9 K H 0 (10 ^ 30)) CM)∧Meth K C "rest" g
def Dl (C:Addr) (H:Hp) (p:Addr):Prop:=∃ (dx:Addr) (fs:List (Str×V)),H p=some (.ins C dx fs)∧∀ m∈(["ask","drop","count_of","last_of","rest","begin_ask","begin_drop","has","names_at","met_by","enough"]:List Str),fs.lookup m=none
theorem Dl.same {H H':Hp} {p:Addr} (h:Dl C H p) (s:Same H H'):Dl C H' p:=by
 obtain ⟨dx,fs,h1,h2⟩:=h
 exact ⟨dx,fs,s _ _ h1,h2⟩
def Jm (C CN CM:Addr):Sp:=fun vs H _ E=>∃ (i c:Int) (p:Addr) (nm:Str),vs=[.int i,.ref p,.str nm,.int c]∧0≤i∧i≤6∧Dl C H p∧A5 nm∧Cg H E (if i<5 then CN else CM)
theorem K6:Al ["_law_which","_law_thing","_law_name","_law_cell","_law_bad"] ["_law_which","_law_thing","_law_name","_law_cell"] (defScope Iu):=⟨rfl,rfl,rfl,by decide +kernel,rfl,by decide +kernel,by decide +kernel⟩
theorem Oc {f gn gm:Addr} (F:FunB K "_law_thing_call" "_law_thing_call" Iu f ["_law_which","_law_thing","_law_name","_law_cell"]) (T:Thg P w K mg base C CN CM) (Gn:FnP P w K mg base 1 gn ["_law_cell","_law_good"] (Kf K)) (hgn:mg "_law_bad_name"=some (.ref gn))
  (Gm:FnP P w K mg base 1 gm ["_law_cell","_law_least","_law_most"] (Eo K)) (hgm:mg "_law_bad_number"=some (.ref gm)):FnX P w K mg base 8 f ["_law_which","_law_thing","_law_name","_law_cell"] (Jm C CN CM):=by
 refine F.okX K6 (fun vs H Q E h=>?_) (fun cdv A outer s H vs Q E hr h=>?_)
 ·obtain ⟨i,c,p,nm,rfl,_⟩:=h
  rfl
 ·obtain ⟨i,c,p,nm,rfl,i0,i6,tA,gn1,k⟩:=h
  have cl:=T.cl
  obtain ⟨ga,fd,t0,Ga,hb0,hb1,Ma⟩:=T.ask
  obtain ⟨gd,Gd,Md⟩:=T.drop
  obtain ⟨gc,Gc,Mc⟩:=T.cnt
  obtain ⟨gl,Gl,Ml⟩:=T.lst
  obtain ⟨gr,Gr,Mr⟩:=T.rst
  refine ⟨_,Ad (A3 (i:=4) K6.nd rfl (Or.inl rfl) (Am Gn (hr.mono (by decide)) hgn (Aa (Ai A9 (pv 3) Ab) (Aa (pv 2) Ac))))
   (Af (Az (Ar Bo (pv 0) Ab (Au _)) (Af (Ak (Ff (pv 1) cl Ma Ga (hr.mono (by decide)) hb1 (show Vals [V.int 1] [Value.int 1 t0] from .cons ⟨t0,rfl⟩ .nil) (N9 Ao) (Aa (pv 4) Ac))))
   (Af (Az (Ar Bo (pv 0) Ab (Au _)) (Af (Ak (Ff (pv 1) cl Ma Ga (hr.mono (by decide)) hb0 .nil (N9 Ao) (Aa (pv 4) (Aa (Am Gm (hr.mono (by decide)) hgm (Aa (Ai A9 (pv 3) Ab) (Aa Ab (Aa (Ai Cc Ab Ab) Ac)))) Ac)))))
   (Af (Az (Ar Bo (pv 0) Ab (Au _)) (Af (Ak (Cd Ao (pv 1) cl Md Gd (hr.mono (by decide)) (Aa (pv 4) Ac))))
   (Af (Az (Ar Bo (pv 0) Ab (Au _)) (Af (Ak (Cd Ao (pv 1) cl Mc Gc (hr.mono (by decide)) (Aa (pv 4) Ac))))
   (Af (Az (Ar Bo (pv 0) Ab (Au _)) (Af (Ak (Cd Ao (pv 1) cl Ml Gl (hr.mono (by decide)) (Aa (pv 4) Ac))))
   (Af (Az (Ar Bo (pv 0) Ab (Au _)) (Af (Ak (Ff (pv 1) cl Ma Ga (hr.mono (by decide)) hb0 .nil (N9 Ao) (Aa (pv 2) (Aa (Am Gm (hr.mono (by decide)) hgm (Aa (Ai A9 (pv 3) Ab) (Aa Ab (Aa (Ai Cc Ab Ab) Ac)))) Ac)))))
   (Af (Ak (Cd Ao (pv 1) cl Mr Gr (hr.mono (by decide)) (Aa (Am Gm (hr.mono (by decide)) hgm (Aa (Ai A9 (pv 3) Ab) (Aa Ab (Aa (Ai Cc Ab Ab) Ac)))) Ac)))))))))))))))),?_⟩
  refine ⟨_,rfl,_,_,rfl,rfl,⟨by decide,by decide⟩,_,rfl,_,nm,rfl,gn1,fun v H1 S1 bad=>?_⟩
  have tA1:=tA.same S1
  obtain ⟨dx,fs,h1,no⟩:=tA1
  have kN:i<5->Cg H1 E CN:=fun h=>by
   rw [if_pos h] at k
   exact k.next S1
  have kM:¬ i<5->Cg H1 E CM:=fun h=>by
   rw [if_neg h] at k
   exact k.next S1
  refine ⟨_,rfl,rfl,_,rfl,ite2 (fun e=>?_) (fun e0=>?_)⟩
  ·have e:i=0:=V.int.inj (of_decide_eq_true e)
   exact ⟨_,rfl,p,dx,fs,rfl,h1,no _ (by decide),_,rfl,p,dx,fs,v,_,CN,rfl,h1,no _ (by decide),.inl ⟨bad,rfl⟩,kN (by omega)⟩
  refine ⟨_,rfl,rfl,_,rfl,ite2 (fun e=>?_) (fun e1=>?_)⟩
  ·have e:i=1:=V.int.inj (of_decide_eq_true e)
   exact ⟨_,rfl,p,dx,fs,rfl,h1,no _ (by decide),_,rfl,_,rfl,_,_,rfl,rfl,⟨by decide,by decide⟩,_,_,rfl,rfl,Ca _ (by decide) (by decide),_,_,_,rfl,by decide,by decide,fun v2 H2 S2 bad2=>
    ⟨p,dx,fs,v,v2,CN,rfl,S2 _ _ h1,no _ (by decide),.inl ⟨bad.same S2,rfl⟩,(kN (by omega)).next S2⟩⟩
  refine ⟨_,rfl,rfl,_,rfl,ite2 (fun e=>?_) (fun e2=>?_)⟩
  ·have e:i=2:=V.int.inj (of_decide_eq_true e)
   exact ⟨_,rfl,p,dx,fs,rfl,h1,no _ (by decide),_,rfl,p,dx,fs,v,rfl,h1,no _ (by decide),bad,kN (by omega)⟩
  refine ⟨_,rfl,rfl,_,rfl,ite2 (fun e=>?_) (fun e3=>?_)⟩
  ·have e:i=3:=V.int.inj (of_decide_eq_true e)
   exact ⟨_,rfl,p,dx,fs,rfl,h1,no _ (by decide),_,rfl,p,v,rfl,bad,kN (by omega)⟩
  refine ⟨_,rfl,rfl,_,rfl,ite2 (fun e=>?_) (fun e4=>?_)⟩
  ·have e:i=4:=V.int.inj (of_decide_eq_true e)
   exact ⟨_,rfl,p,dx,fs,rfl,h1,no _ (by decide),_,rfl,p,v,rfl,bad,kN (by omega)⟩
  have ni:∀ j:Int,¬ decide (V.int i=V.int j)=true->i≠j:=fun j h z=>h (by rw [z]; exact decide_eq_true rfl)
  have n0:¬ i<5:=by
   have:=ni 0 e0
   have:=ni 1 e1
   have:=ni 2 e2
   have:=ni 3 e3
   have:=ni 4 e4
   omega
  refine ⟨_,rfl,rfl,_,rfl,ite2 (fun e=>?_) (fun e5=>?_)⟩
  ·exact ⟨_,rfl,p,dx,fs,rfl,h1,no _ (by decide),_,rfl,_,rfl,_,_,rfl,rfl,⟨by decide,by decide⟩,_,_,rfl,rfl,Ca _ (by decide) (by decide),_,_,_,rfl,by decide,by decide,fun v2 H2 S2 bad2=>
    ⟨p,dx,fs,.str nm,v2,CM,rfl,S2 _ _ h1,no _ (by decide),.inr ⟨⟨nm,rfl,gn1⟩,by rw [p30] at bad2; exact bad2,rfl⟩,(kM n0).next S2⟩⟩
  ·exact ⟨_,rfl,p,dx,fs,rfl,h1,no _ (by decide),_,rfl,_,_,rfl,rfl,⟨by decide,by decide⟩,_,_,rfl,rfl,Ca _ (by decide) (by decide),_,_,_,rfl,by decide,by decide,fun v2 H2 S2 bad2=>
    ⟨p,v2,rfl,by rw [p30] at bad2; exact bad2,(kM n0).next S2⟩⟩
structure Own (P:Program) (w:World) (K:PySem.W.Frag) (mg:Str->Option Value) (base:Heap) (CS CW CN CM:Addr):Prop where
 cs:Cls K CS
 cw:Cls K CW
 has:∃ g,FnX P w K mg base 4 g ["self","name"] (spM1 (Bh K) CN)∧Meth K CS "has" g
 nat:∃ g,FnX P w K mg base 4 g ["self","places"] (spM1 (fun H=>B9 K H 1 1000) CM)∧Meth K CW "names_at" g
 met:∃ g,FnX P w K mg base 4 g ["self","places"] (spM1 (fun H=>B9 K H 1 1000) CM)∧Meth K CW "met_by" g
 eno:∃ g,FnX P w K mg base 4 g ["self","many"] (spM1 (fun H=>B9 K H 0 (10 ^ 30)) CM)∧Meth K CW "enough" g
def iF (CS CW CN CM:Addr):Sp:=fun vs H _ E=>∃ (i c:Int) (p q:Addr) (nm:Str),vs=[.int i,.ref p,.ref q,.str nm,.int c]∧14≤i∧i≤17∧Dl CS H p∧Dl CW H q∧A5 nm∧Cg H E (if i=14 then CN else CM)
theorem Ye:Al ["_law_which","_law_shelf","_law_row","_law_name","_law_cell"] ["_law_which","_law_shelf","_law_row","_law_name","_law_cell"] (defScope Nq):=⟨rfl,rfl,rfl,by decide +kernel,rfl,by decide +kernel,by decide +kernel⟩
theorem jT {f gn gm CS CW:Addr} (F:FunB K "_law_own_call" "_law_own_call" Nq f ["_law_which","_law_shelf","_law_row","_law_name","_law_cell"]) (T:Own P w K mg base CS CW CN CM) (Gn:FnP P w K mg base 1 gn ["_law_cell","_law_good"] (Kf K)) (hgn:mg "_law_bad_name"=some (.ref gn))
  (Gm:FnP P w K mg base 1 gm ["_law_cell","_law_least","_law_most"] (Eo K)) (hgm:mg "_law_bad_number"=some (.ref gm)):FnX P w K mg base 8 f ["_law_which","_law_shelf","_law_row","_law_name","_law_cell"] (iF CS CW CN CM):=by
 refine F.okX Ye (fun vs H Q E h=>?_) (fun cdv A outer s H vs Q E hr h=>?_)
 ·obtain ⟨i,c,p,q,nm,rfl,_⟩:=h
  rfl
 ·obtain ⟨i,c,p,q,nm,rfl,i0,i6,⟨dx,fs,h1,no⟩,⟨dx2,fs2,h2,no2⟩,gn1,k⟩:=h
  obtain ⟨ga,Ga,Ma⟩:=T.has
  obtain ⟨gd,Gd,Md⟩:=T.nat
  obtain ⟨gc,Gc,Mc⟩:=T.met
  obtain ⟨ge,Ge,Me⟩:=T.eno
  refine ⟨_,Af (Az (Ar Bo (pv 0) Ab (Au _)) (Af (Ak (Cd Ao (pv 1) T.cs Ma Ga (hr.mono (by decide)) (Aa (Am Gn (hr.mono (by decide)) hgn (Aa (Ai A9 (pv 4) Ab) (Aa (pv 3) Ac))) Ac))))
   (Af (Az (Ar Bo (pv 0) Ab (Au _)) (Af (Ak (Cd Ao (pv 2) T.cw Md Gd (hr.mono (by decide)) (Aa (Am Gm (hr.mono (by decide)) hgm (Aa (Ai A9 (pv 4) Ab) (Aa Ab (Aa Ab Ac)))) Ac))))
   (Af (Az (Ar Bo (pv 0) Ab (Au _)) (Af (Ak (Cd Ao (pv 2) T.cw Mc Gc (hr.mono (by decide)) (Aa (Am Gm (hr.mono (by decide)) hgm (Aa (Ai A9 (pv 4) Ab) (Aa Ab (Aa Ab Ac)))) Ac))))
   (Af (Ak (Cd Ao (pv 2) T.cw Me Ge (hr.mono (by decide)) (Aa (Am Gm (hr.mono (by decide)) hgm (Aa (Ai A9 (pv 4) Ab) (Aa Ab (Aa (Ai Cc Ab Ab) Ac)))) Ac))))))))),?_⟩
  refine ⟨_,rfl,rfl,_,rfl,ite2 (fun e=>?_) (fun e0=>?_)⟩
  ·have e:i=14:=V.int.inj (of_decide_eq_true e)
   rw [if_pos e] at k
   exact ⟨_,rfl,p,dx,fs,rfl,h1,no _ (by decide),_,rfl,_,_,rfl,rfl,⟨by decide,by decide⟩,_,rfl,_,nm,rfl,gn1,fun v H1 S1 bad=>⟨p,v,rfl,bad,k.next S1⟩⟩
  have n0:i≠14:=fun z=>e0 (by rw [z]; exact decide_eq_true rfl)
  rw [if_neg n0] at k
  refine ⟨_,rfl,rfl,_,rfl,ite2 (fun e=>?_) (fun e1=>?_)⟩
  ·exact ⟨_,rfl,q,dx2,fs2,rfl,h2,no2 _ (by decide),_,rfl,_,_,rfl,rfl,⟨by decide,by decide⟩,_,_,_,rfl,by decide,by decide,fun v H1 S1 bad=>⟨q,v,rfl,bad,k.next S1⟩⟩
  refine ⟨_,rfl,rfl,_,rfl,ite2 (fun e=>?_) (fun e1=>?_)⟩
  ·exact ⟨_,rfl,q,dx2,fs2,rfl,h2,no2 _ (by decide),_,rfl,_,_,rfl,rfl,⟨by decide,by decide⟩,_,_,_,rfl,by decide,by decide,fun v H1 S1 bad=>⟨q,v,rfl,bad,k.next S1⟩⟩
  ·exact ⟨_,rfl,q,dx2,fs2,rfl,h2,no2 _ (by decide),_,rfl,_,_,rfl,rfl,⟨by decide,by decide⟩,_,_,rfl,rfl,Ca _ (by decide) (by decide),_,_,_,rfl,by decide,by decide,fun v H1 S1 bad=>⟨q,v,rfl,by rw [p30] at bad; exact bad,k.next S1⟩⟩
structure New (P:Program) (w:World) (K:PySem.W.Frag) (mg:Str->Option Value) (base:Heap) (CM CR:Addr):Prop where
 sh:∃ C g,mg "Shelf"=some (.ref C)∧Mk K C g∧FnX P w K mg base 6 g ["self","places","span","part"] (Tp K CM CR)
 ro:∃ C g,mg "Row"=some (.ref C)∧Mk K C g∧FnX P w K mg base 6 g ["self","span","part"] (Hm K CR)
 bo:∃ C g,mg "Book"=some (.ref C)∧Mk K C g∧FnX P w K mg base 4 g ["self","span","part"] (Hm K CR)
theorem Bw {H:Hp} {x dx:Addr} {o o':HO} (h1:H x=none) (h2:H dx=none) (h:dx≠x):Same H (upd (upd H dx o) x o'):=
 (Same.upd h2).trans (Same.upd (by rw [Ae (Ne.symm h)]; exact h1))
def Pk (CM CR:Addr):Sp:=fun vs H _ E=>∃ (i c:Int),vs=[.int i,.int c]∧18≤i∧i≤25∧Cg H E (if i<20 then CM else CR)
theorem Kj:Al ["_law_which","_law_cell","_law_bad","_law_also"] ["_law_which","_law_cell"] (defScope Nr):=⟨rfl,rfl,rfl,by decide +kernel,rfl,by decide +kernel,by decide +kernel⟩
theorem jU {f gm:Addr} (F:FunB K "_law_new_call" "_law_new_call" Nr f ["_law_which","_law_cell"]) (T:New P w K mg base CM CR)
  (Gm:FnP P w K mg base 1 gm ["_law_cell","_law_least","_law_most"] (Eo K)) (hgm:mg "_law_bad_number"=some (.ref gm)):FnX P w K mg base 9 f ["_law_which","_law_cell"] (Pk CM CR):=by
 refine F.okX Kj (fun vs H Q E h=>?_) (fun cdv A outer s H vs Q E hr h=>?_)
 ·obtain ⟨i,c,rfl,_⟩:=h
  rfl
 ·obtain ⟨i,c,rfl,i0,i6,k⟩:=h
  obtain ⟨Cs,gs,hs,Ms,Gs⟩:=T.sh
  obtain ⟨Cr,gr,hrw,Mr,Gr⟩:=T.ro
  obtain ⟨Cb,gb,hbk,Mb,Gb⟩:=T.bo
  refine ⟨_,Ad (A3 (i:=2) Kj.nd rfl (Or.inl rfl) (Am Gm (hr.mono (by decide)) hgm (Aa (Ai A9 (pv 1) Ab) (Aa Ab (Aa (Ai Cc Ab Ab) Ac)))))
   (Ad (A3 (i:=3) Kj.nd rfl (Or.inl rfl) (Am Gm (hr.mono (by decide)) hgm (Aa (Ai A9 (pv 1) Ab) (Aa Ab (Aa (Ai Cc Ab Ab) Ac)))))
   (Af (Az (Ar Bo (pv 0) Ab (Au _)) (Af (Ak (Dx Ao Ms Gs (hr.mono (by decide)) hs (Aa (Am Gm (hr.mono (by decide)) hgm (Aa (Ai A9 (pv 1) Ab) (Aa Ab (Aa Ab Ac)))) (Aa Ab (Aa Ab Ac))))))
   (Af (Az (Ar Bo (pv 0) Ab (Au _)) (Af (Ak (Dx Ao Ms Gs (hr.mono (by decide)) hs (Aa (Am Gm (hr.mono (by decide)) hgm (Aa (Ai A9 (pv 1) Ab) (Aa Ab (Aa Ab Ac)))) (Aa (pv 2) (Aa (pv 3) Ac))))))
   (Af (Az (Ar Bo (pv 0) Ab (Au _)) (Af (Ak (Dx Ao Ms Gs (hr.mono (by decide)) hs (Aa Ab (Aa (pv 2) (Aa Ab Ac))))))
   (Af (Az (Ar Bo (pv 0) Ab (Au _)) (Af (Ak (Dx Ao Ms Gs (hr.mono (by decide)) hs (Aa Ab (Aa Ab (Aa (pv 3) Ac))))))
   (Af (Az (Ar Bo (pv 0) Ab (Au _)) (Af (Ak (Dx Ao Mr Gr (hr.mono (by decide)) hrw (Aa (pv 2) (Aa Ab Ac)))))
   (Af (Az (Ar Bo (pv 0) Ab (Au _)) (Af (Ak (Dx Ao Mr Gr (hr.mono (by decide)) hrw (Aa Ab (Aa (pv 3) Ac)))))
   (Af (Az (Ar Bo (pv 0) Ab (Au _)) (Af (Ak (Dx Ao Mb Gb (hr.mono (by decide)) hbk (Aa (pv 2) (Aa (pv 3) Ac)))))
   (Af (Ak (Dx Ao Mb Gb (hr.mono (by decide)) hbk (Aa Ab (Aa (pv 3) Ac)))))))))))))))))))),?_⟩
  refine ⟨_,rfl,_,_,rfl,rfl,⟨by decide,by decide⟩,_,_,rfl,rfl,Ca _ (by decide) (by decide),_,_,_,rfl,by decide,by decide,fun v1 H1 S1 bad1=>?_⟩
  refine ⟨_,rfl,_,_,rfl,rfl,⟨by decide,by decide⟩,_,_,rfl,rfl,Ca _ (by decide) (by decide),_,_,_,rfl,by decide,by decide,fun v2 H2 S2 bad2=>?_⟩
  have bad1:B9 K H2 1 (10 ^ 20) v1:=by rw [p20] at bad1; exact bad1.same S2
  have bad2:B9 K H2 2 (10 ^ 30) v2:=by rw [p30] at bad2; exact bad2
  have k:=(k.next S1).next S2
  have kM:i<20->Cg H2 E CM:=fun h=>by rw [if_pos h] at k; exact k
  have kR:¬ i<20->Cg H2 E CR:=fun h=>by rw [if_neg h] at k; exact k
  have ni:∀ j:Int,¬ decide (V.int i=V.int j)=true->i≠j:=fun j h z=>h (by rw [z]; exact decide_eq_true rfl)
  refine ⟨_,rfl,rfl,_,rfl,ite2 (fun e=>?_) (fun e0=>?_)⟩
  ·have e:i=18:=V.int.inj (of_decide_eq_true e)
   exact ⟨_,rfl,_,_,rfl,rfl,⟨by decide,by decide⟩,_,_,_,rfl,by decide,by decide,fun v H3 S3 bad x dx hx hdx hne=>⟨x,v,_,_,rfl,.inl ⟨bad.same (Bw hx hdx hne),((kM (by omega)).next S3).next (Bw hx hdx hne)⟩⟩⟩
  refine ⟨_,rfl,rfl,_,rfl,ite2 (fun e=>?_) (fun e1=>?_)⟩
  ·have e:i=19:=V.int.inj (of_decide_eq_true e)
   exact ⟨_,rfl,_,_,rfl,rfl,⟨by decide,by decide⟩,_,_,_,rfl,by decide,by decide,fun v H3 S3 bad=>⟨_,rfl,_,rfl,fun x dx hx hdx hne=>⟨x,v,_,_,rfl,.inl ⟨bad.same (Bw hx hdx hne),((kM (by omega)).next S3).next (Bw hx hdx hne)⟩⟩⟩⟩
  have n0:¬ i<20:=by
   have:=ni 18 e0
   have:=ni 19 e1
   omega
  have kR:=kR n0
  refine ⟨_,rfl,rfl,_,rfl,ite2 (fun e=>?_) (fun e1=>?_)⟩
  ·exact ⟨_,rfl,fun x dx hx hdx hne=>⟨x,_,_,_,rfl,.inr ⟨⟨4,rfl,by decide,by decide⟩,.inl (bad1.same (Bw hx hdx hne)),kR.next (Bw hx hdx hne)⟩⟩⟩
  refine ⟨_,rfl,rfl,_,rfl,ite2 (fun e=>?_) (fun e1=>?_)⟩
  ·exact ⟨_,rfl,fun x dx hx hdx hne=>⟨x,_,_,_,rfl,.inr ⟨⟨4,rfl,by decide,by decide⟩,.inr ⟨⟨5,rfl,by decide,by decide⟩,bad2.same (Bw hx hdx hne)⟩,kR.next (Bw hx hdx hne)⟩⟩⟩
  refine ⟨_,rfl,rfl,_,rfl,ite2 (fun e=>?_) (fun e1=>?_)⟩
  ·exact ⟨_,rfl,fun x dx hx hdx hne=>⟨x,_,_,rfl,.inl (bad1.same (Bw hx hdx hne)),kR.next (Bw hx hdx hne)⟩⟩
  refine ⟨_,rfl,rfl,_,rfl,ite2 (fun e=>?_) (fun e1=>?_)⟩
  ·exact ⟨_,rfl,fun x dx hx hdx hne=>⟨x,_,_,rfl,.inr ⟨⟨7,rfl,by decide,by decide⟩,bad2.same (Bw hx hdx hne)⟩,kR.next (Bw hx hdx hne)⟩⟩
  refine ⟨_,rfl,rfl,_,rfl,ite2 (fun e=>?_) (fun e1=>?_)⟩
  ·exact ⟨_,rfl,_,rfl,fun x dx hx hdx hne=>⟨x,_,_,rfl,.inl (bad1.same (Bw hx hdx hne)),kR.next (Bw hx hdx hne)⟩⟩
  ·exact ⟨_,rfl,fun x dx hx hdx hne=>⟨x,_,_,rfl,.inr ⟨⟨7,rfl,by decide,by decide⟩,bad2.same (Bw hx hdx hne)⟩,kR.next (Bw hx hdx hne)⟩⟩
end
end Lk

namespace Lk
open PySem L2
def dueS (i:Int):Str:=if i<14 then (if i % 7<5 then "name" else "number") else if i=14 then "name" else if i<20 then "number" else "rule"
def exC (CN CM CR:Addr) (i:Int):Addr:=if i<14 then (if i % 7<5 then CN else CM) else if i=14 then CN else if i<20 then CM else CR
theorem Qi (CN CM CR:Addr) (i:Int):(exC CN CM CR i=CN∧dueS i="name")∨(exC CN CM CR i=CM∧dueS i="number")∨(exC CN CM CR i=CR∧dueS i="rule"):=by
 unfold exC dueS
 by_cases h:i<14
 ·rw [if_pos h,if_pos h]
  by_cases h2:i % 7<5
  ·rw [if_pos h2,if_pos h2]; exact .inl ⟨rfl,rfl⟩
  ·rw [if_neg h2,if_neg h2]; exact .inr (.inl ⟨rfl,rfl⟩)
 ·rw [if_neg h,if_neg h]
  by_cases h2:i=14
  ·rw [if_pos h2,if_pos h2]; exact .inl ⟨rfl,rfl⟩
  ·rw [if_neg h2,if_neg h2]
   by_cases h3:i<20
   ·rw [if_pos h3,if_pos h3]; exact .inr (.inl ⟨rfl,rfl⟩)
   ·rw [if_neg h3,if_neg h3]; exact .inr (.inr ⟨rfl,rfl⟩)
section
variable {P:Program} {w:World} {K:PySem.W.Frag} {mg:Str->Option Value} {base:Heap} {C CS CW CB CN CM CR CE:Addr}
def aM:Sp:=fun vs H Q _=>∃ i:Int,vs=[.int i]∧0≤i∧∀ H',Same H H'->Q (.str (dueS i)) H'
theorem scDue:Al ["_law_which"] ["_law_which"] (defScope sDue):=⟨rfl,rfl,rfl,by decide +kernel,rfl,by decide +kernel,by decide +kernel⟩
set_option maxHeartbeats 4000000 in
theorem jW {f:Addr} (F:FunB K "_law_due" "_law_due" sDue f ["_law_which"]):FnP P w K mg base 1 f ["_law_which"] aM:=by
 refine F.ok scDue (fun vs H Q E h=>?_) (fun cdv A outer s H vs Q E hr h=>?_)
 ·obtain ⟨i,rfl,_⟩:=h
  rfl
 ·obtain ⟨i,rfl,i0,k⟩:=h
  refine ⟨_,Ad (Az (Ar K9 (pv 0) Ab (Au _)) (Af (As (B7 Bq (C5 (Aa A4 (Aa A4 (Aa A4 (Aa A4 (Aa A4 (Aa A4 (Aa A4 Ac)))))))) (Ai Ba.letter (pv 0) Ab) (fun _ _=>rfl)))) Av)
   (Ad (Az (Ar Bo (pv 0) Ab (Au _)) (Af (As A4)) Av)
   (Ad (Az (Ar K9 (pv 0) Ab (Au _)) (Af (As A4)) Av)
   (Af (As A4)))),?_⟩
  refine ⟨_,rfl,_,_,rfl,rfl,_,rfl,ite2 (fun e=>?_) (fun e=>?_)⟩
  ·have e:i<14:=of_decide_eq_true e
   refine ⟨by show 7≤sizeLine; decide,fun p hp=>⟨_,rfl,_,_,rfl,rfl,(by show (0:Int)<7; decide),fun ix hix=>?_⟩⟩
   refine ⟨p,_,ix,.str (dueS i),rfl,rfl,SqL.of Ag,?_,k _ (Same.upd hp)⟩
   have hd:dueS i=if ix<5 then ("name":Str) else ("number":Str):=by unfold dueS; rw [if_pos e,hix]
   rw [hd]
   have:ix=0∨ix=1∨ix=2∨ix=3∨ix=4∨ix=5∨ix=6:=by omega
   clear hd hix
   rcases this with rfl | rfl | rfl | rfl | rfl | rfl | rfl <;> rfl
  have e:¬ i<14:=fun z=>e (decide_eq_true z)
  refine ⟨_,rfl,rfl,_,rfl,ite2 (fun e1=>?_) (fun e1=>?_)⟩
  ·have e1:i=14:=V.int.inj (of_decide_eq_true e1)
   have:dueS i="name":=by unfold dueS; rw [if_neg e,if_pos e1]
   rw [this] at k
   exact k H Same.rfl
  have e1:¬ i=14:=fun z=>e1 (by rw [z]; exact decide_eq_true rfl)
  refine ⟨_,rfl,_,_,rfl,rfl,_,rfl,ite2 (fun e2=>?_) (fun e2=>?_)⟩
  ·have e2:i<20:=of_decide_eq_true e2
   have:dueS i="number":=by unfold dueS; rw [if_neg e,if_neg e1,if_pos e2]
   rw [this] at k
   exact k H Same.rfl
  ·have e2:¬ i<20:=fun z=>e2 (decide_eq_true z)
   have:dueS i="rule":=by unfold dueS; rw [if_neg e,if_neg e1,if_neg e2]
   rw [this] at k
   exact k H Same.rfl
def Ky (K:PySem.W.Frag) (CS CW CB:Addr) (H:Hp) (l:Addr):Prop:=∃ p q r:Addr,SqL K H l [.ref p,.ref q,.ref r]∧Dl CS H p∧Dl CW H q∧Dl CB H r
theorem Na {H H':Hp} {l:Addr} {xs:List V} (h:SqL K H l xs) (s:Same H H'):SqL K H' l xs:=s.seq h
theorem Ky.same {H H':Hp} {l:Addr} (h:Ky K CS CW CB H l) (s:Same H H'):Ky K CS CW CB H' l:=by
 obtain ⟨p,q,r,a,b,c,d⟩:=h
 exact ⟨p,q,r,Na a s,b.same s,c.same s,d.same s⟩
def Q1 (K:PySem.W.Frag) (CS CW CB CN CM CR:Addr):Sp:=fun vs H _ E=>∃ (i c:Int) (l:Addr) (nm:Str),vs=[.int i,.ref l,.str nm,.int c]∧0≤i∧i≤25∧Ky K CS CW CB H l∧A5 nm∧Cg H E (exC CN CM CR i)
theorem fP:Al ["_law_which","_law_things","_law_name","_law_cell"] ["_law_which","_law_things","_law_name","_law_cell"] (defScope Nu):=⟨rfl,rfl,rfl,by decide +kernel,rfl,by decide +kernel,by decide +kernel⟩
theorem cY {f gt go gw:Addr} (F:FunB K "_law_call" "_law_call" Nu f ["_law_which","_law_things","_law_name","_law_cell"]) (hgt:mg "_law_thing_call"=some (.ref gt))
  (G0:FnX P w K mg base 8 gt ["_law_which","_law_thing","_law_name","_law_cell"] (Jm CS CN CM)) (G1:FnX P w K mg base 8 gt ["_law_which","_law_thing","_law_name","_law_cell"] (Jm CW CN CM)) (G2:FnX P w K mg base 8 gt ["_law_which","_law_thing","_law_name","_law_cell"] (Jm CB CN CM))
  (Go:FnX P w K mg base 8 go ["_law_which","_law_shelf","_law_row","_law_name","_law_cell"] (iF CS CW CN CM)) (hgo:mg "_law_own_call"=some (.ref go)) (Gw:FnX P w K mg base 9 gw ["_law_which","_law_cell"] (Pk CM CR)) (hgw:mg "_law_new_call"=some (.ref gw)) :
  FnX P w K mg base 11 f ["_law_which","_law_things","_law_name","_law_cell"] (Q1 K CS CW CB CN CM CR):=by
 refine F.okX fP (fun vs H Q E h=>?_) (fun cdv A outer s H vs Q E hr h=>?_)
 ·obtain ⟨i,c,l,nm,rfl,_⟩:=h
  rfl
 ·obtain ⟨i,c,l,nm,rfl,i0,i6,⟨p,q,r,hl,tp,tq,tr⟩,gn1,k⟩:=h
  have go2:∀ (CX px:Addr) (G:FnX P w K mg base 8 gt ["_law_which","_law_thing","_law_name","_law_cell"] (Jm CX CN CM)),Dl CX H px->atI [V.ref p,.ref q,.ref r] (1+c / 4 % 2)=some (.ref px) ->
    ∃ t,PSs (cxOf (CX1 P w) P w K mg base ["_law_which","_law_things","_law_name","_law_cell"] "_law_call" (defScope Nu) f cdv A outer s H E) (defBody Nu) t∧t {nx:=fun _ H'=>Q .non H',rt:=Q} (C9 ["_law_which","_law_things","_law_name","_law_cell"] [.int i,.ref l,.str nm,.int c]) H:=fun CX px G tx hat=>by
   refine ⟨_,Af (Az (Ar K9 (pv 0) Ab (Au _)) (Af (Ak (Bx Ao G0 (hr.mono (by decide)) hgt (Aa (pv 0) (Aa (B7 Bq (pv 1) Ab (fun _ _=>rfl)) (Aa (pv 2) (Aa (pv 3) Ac)))))))
    (Af (Az (Ar K9 (pv 0) Ab (Au _)) (Af (Ak (Bx Ao G (hr.mono (by decide)) hgt (Aa (Ai Kp (pv 0) Ab) (Aa (B7 Bq (pv 1) (Ai Bj Ab (Ai Ba (Ai A9 (pv 3) Ab) Ab)) (fun _ _=>rfl)) (Aa (pv 2) (Aa (pv 3) Ac)))))))
    (Af (Az (Ar K9 (pv 0) Ab (Au _)) (Af (Ak (Bx Ao Go (hr.mono (by decide)) hgo (Aa (pv 0) (Aa (B7 Bq (pv 1) Ab (fun _ _=>rfl)) (Aa (B7 Bq (pv 1) Ab (fun _ _=>rfl)) (Aa (pv 2) (Aa (pv 3) Ac))))))))
    (Af (Ak (Bx Ao Gw (hr.mono (by decide)) hgw (Aa (pv 0) (Aa (pv 3) Ac)))))))))),?_⟩
   have atp:∀ j:Nat,j<2->atI [V.ref p,.ref q,.ref r] (j:Int)=some (if j=0 then .ref p else .ref q):=fun j hj=>by
    have:j=0∨j=1:=by omega
    rcases this with rfl | rfl <;> rfl
   refine ⟨_,rfl,_,_,rfl,rfl,_,rfl,ite2 (fun e=>?_) (fun e=>?_)⟩
   ·have e:i<7:=of_decide_eq_true e
    refine ⟨_,rfl,_,rfl,l,_,0,_,rfl,rfl,hl,atp 0 (by decide),_,rfl,_,rfl,i,c,p,nm,rfl,i0,by omega,tp,gn1,?_⟩
    unfold exC at k
    rw [if_pos (by omega:i<14),show i % 7=i by omega] at k
    by_cases h:i<5
    ·rw [if_pos h] at k ⊢; exact k
    ·rw [if_neg h] at k ⊢; exact k
   have e:¬ i<7:=fun z=>e (decide_eq_true z)
   refine ⟨_,rfl,_,_,rfl,rfl,_,rfl,ite2 (fun e1=>?_) (fun e1=>?_)⟩
   ·have e1:i<14:=of_decide_eq_true e1
    refine ⟨_,rfl,_,_,rfl,rfl,_,rfl,_,rfl,_,_,rfl,rfl,⟨by decide,by decide⟩,_,_,rfl,rfl,(by show (0:Int)<2; decide),_,_,rfl,rfl,l,_,_,_,rfl,rfl,hl,hat,_,rfl,_,rfl,i - 7,c,px,nm,rfl,by omega,by omega,tx,gn1,?_⟩
    unfold exC at k
    rw [if_pos e1,show i % 7=i - 7 by omega] at k
    by_cases h:i - 7<5
    ·rw [if_pos h] at k ⊢; exact k
    ·rw [if_neg h] at k ⊢; exact k
   have e1:¬ i<14:=fun z=>e1 (decide_eq_true z)
   refine ⟨_,rfl,_,_,rfl,rfl,_,rfl,ite2 (fun e2=>?_) (fun e2=>?_)⟩
   ·have e2:i<18:=of_decide_eq_true e2
    refine ⟨_,rfl,_,rfl,l,_,0,_,rfl,rfl,hl,atp 0 (by decide),_,rfl,l,_,1,_,rfl,rfl,hl,atp 1 (by decide),_,rfl,_,rfl,i,c,p,q,nm,rfl,by omega,by omega,tp,tq,gn1,?_⟩
    unfold exC at k
    rw [if_neg e1] at k
    by_cases h:i=14
    ·rw [if_pos h] at k ⊢; exact k
    ·rw [if_neg h,if_pos (by omega:i<20)] at k
     rw [if_neg h]; exact k
   ·have e2:¬ i<18:=fun z=>e2 (decide_eq_true z)
    refine ⟨_,rfl,_,rfl,i,c,rfl,by omega,by omega,?_⟩
    unfold exC at k
    rw [if_neg e1,if_neg (by omega:¬ i=14)] at k
    exact k
  by_cases hc:c / 4 % 2=0
  ·exact go2 CW q G1 tq (by rw [hc]; rfl)
  ·exact go2 CB r G2 tr (by rw [show c / 4 % 2=1 by omega]; rfl)
end
end Lk

namespace Lk
open PySem L2
structure XOf (K:PySem.W.Frag) (CE CN CM CR C:Addr) (b1 b2 b3:Bool):Prop where
 x:XCls K C
 e0:PySem.W.exmOne K (.ref C) (.ref CE)=some true
 e1:PySem.W.exmOne K (.ref C) (.ref CN)=some b1
 e2:PySem.W.exmOne K (.ref C) (.ref CM)=some b2
 e3:PySem.W.exmOne K (.ref C) (.ref CR)=some b3
 v:PySem.W.kitOne K (.ref C) (.type "ValueError")=some true
 k1:PySem.W.kitOne K (.ref C) (.ref CN)=some b1
 k2:PySem.W.kitOne K (.ref C) (.ref CM)=some b2
 k3:PySem.W.kitOne K (.ref C) (.ref CR)=some b3
structure Excs (K:PySem.W.Frag) (mg:Str->Option Value) (CE CN CM CR:Addr):Prop where
 n:XOf K CE CN CM CR CN true false false
 m:XOf K CE CN CM CR CM false true false
 r:XOf K CE CN CM CR CR false false true
 ge:mg "ShelfError"=some (.ref CE)
 gn:mg "NoName"=some (.ref CN)
 gm:mg "NoNumber"=some (.ref CM)
 gr:mg "NoRule"=some (.ref CR)
 gv:mg "ValueError"=none
theorem Ii {X:Cx} {a C:Addr} {oe:Obj} (hc:oe.cls=.ref C):D4 (X.sub (.ref a) [(a,oe)]) (.builtin "isinstance") (fun us H Q=>XCls X.K C∧∃ (c:V) (b:Bool),us=[.ref a,c]∧((∃ T,c=.ty T∧PySem.W.kitOne X.K (.ref C) (.type T)=some b)∨∃ C1,c=.ref C1∧PySem.W.kitOne X.K (.ref C) (.ref C1)=some b)∧Q (.bl b) H):=by
 intro pins s σ H us vs Q I r h
 exact Z0 (X:=X.sub (.ref a) [(a,oe)]) (List.mem_append_left _ List.mem_cons_self) hc h.1 pins s σ H us vs Q I r h.2
theorem hX:bootBuiltins "ValueError"=some (.type "ValueError"):=by decide +kernel
section
variable {P:Program} {w:World} {K:PySem.W.Frag} {mg:Str->Option Value} {base:Heap} {C CS CW CB CN CM CR CE:Addr}
theorem Excs.of (X:Excs K mg CE CN CM CR) (i:Int):∃ b1 b2 b3,XOf K CE CN CM CR (exC CN CM CR i) b1 b2 b3∧b1=decide (dueS i="name")∧b2=decide (dueS i="number")∧b3=decide (dueS i="rule"):=by
 rcases Qi CN CM CR i with ⟨h1,h2⟩ | ⟨h1,h2⟩ | ⟨h1,h2⟩
 ·rw [h1,h2]; exact ⟨_,_,_,X.n,by decide,by decide,by decide⟩
 ·rw [h1,h2]; exact ⟨_,_,_,X.m,by decide,by decide,by decide⟩
 ·rw [h1,h2]; exact ⟨_,_,_,X.r,by decide,by decide,by decide⟩
def spBy (K:PySem.W.Frag) (CS CW CB:Addr):Sp:=fun vs H Q _=>∃ (i c:Int) (l:Addr) (nm:Str),vs=[.int i,.ref l,.str nm,.int c]∧0≤i∧i≤25∧Ky K CS CW CB H l∧A5 nm∧∀ H',Same H H'->Q (.bl true) H'
theorem F8:Al ["_law_which","_law_things","_law_name","_law_cell","_law_told","e","_law_due_here"] ["_law_which","_law_things","_law_name","_law_cell"] (defScope Rq):=⟨rfl,rfl,rfl,by decide +kernel,rfl,by decide +kernel,by decide +kernel⟩
theorem Y1 {f gc gd:Addr} (F:FunB K "_law_by_base" "_law_by_base" Rq f ["_law_which","_law_things","_law_name","_law_cell"]) (B:Blt mg) (Z:Excs K mg CE CN CM CR)
  (G:FnX P w K mg base 11 gc ["_law_which","_law_things","_law_name","_law_cell"] (Q1 K CS CW CB CN CM CR)) (hgc:mg "_law_call"=some (.ref gc)) (Gd:FnP P w K mg base 1 gd ["_law_which"] aM) (hgd:mg "_law_due"=some (.ref gd)) :
  FnP P w K mg base 13 f ["_law_which","_law_things","_law_name","_law_cell"] (spBy K CS CW CB):=by
 obtain ⟨fd,G,hb,hk⟩:=G
 refine F.ok F8 (fun vs H Q E h=>?_) (fun cdv A outer s H vs Q E hr h=>?_)
 ·obtain ⟨i,c,l,nm,rfl,_⟩:=h
  rfl
 ·obtain ⟨i,c,l,nm,rfl,i0,i6,th,gn1,k⟩:=h
  have hu:=Dj hr
  obtain ⟨b1,b2,b3,XX,e1,e2,e3⟩:=Z.of i
  refine ⟨_,Ad (A3 (i:=4) F8.nd rfl (Or.inl rfl) (C5 Ac))
   (Ad (bT G (hr.mono (by decide)) rfl hgc hk hb .nil (Aa (pv 0) (Aa (pv 1) (Aa (pv 2) (Aa (pv 3) Ac))))
      (ph_as (i:=5) rfl Z.ge F8.nd rfl rfl rfl (fun a C oe hc=>Af (A3 (i:=4) F8.nd rfl (Or.inl rfl) (C5 (Aa (Bi (Ii hc) rfl B.isi PyProof.Rows.boot_isinstance (Aa (pv 5) (Aa (Xl (v:=.ty "ValueError") rfl Z.gv hX rfl) Ac))) (Aa (Bi (Ii hc) rfl B.isi PyProof.Rows.boot_isinstance (Aa (pv 5) (Aa (Jx (v:=.ref CN) rfl Z.gn rfl) Ac))) (Aa (Bi (Ii hc) rfl B.isi PyProof.Rows.boot_isinstance (Aa (pv 5) (Aa (Jx (v:=.ref CM) rfl Z.gm rfl) Ac))) (Aa (Bi (Ii hc) rfl B.isi PyProof.Rows.boot_isinstance (Aa (pv 5) (Aa (Jx (v:=.ref CR) rfl Z.gr rfl) Ac))) Ac))))))) bX) ⟨rfl,rfl,rfl⟩)
   (Ad (A3 (i:=6) F8.nd rfl (Or.inl rfl) (Am Gd (hr.mono (by decide)) hgd (Aa (pv 0) Ac)))
   (Af (As (Ep (jR (Nat.lt_of_succ_lt hu)) (pv 4) (C5 (Aa C3 (Aa (Ep Bo (pv 6) A4 (Au _)) (Aa (Ep Bo (pv 6) A4 (Au _)) (Aa (Ep Bo (pv 6) A4 (Au _)) Ac))))) (Au _)))))),?_⟩
  have big:100≤sizeLine:=by decide
  refine ⟨by show 0≤sizeLine; omega,fun p1 hp1=>?_⟩
  have S1:=Same.upd (o:=HO.lst []) hp1
  refine ⟨_,rfl,_,rfl,_,rfl,_,rfl,i,c,l,nm,rfl,i0,i6,th.same S1,gn1,fun H2 S2=>⟨_,rfl,true,XX.e0,iteT fun a=>?_⟩⟩
  refine ⟨_,rfl,XX.x,_,true,rfl,.inl ⟨_,rfl,XX.v⟩,_,rfl,XX.x,_,b1,rfl,.inr ⟨_,rfl,XX.k1⟩,_,rfl,XX.x,_,b2,rfl,.inr ⟨_,rfl,XX.k2⟩,_,rfl,XX.x,_,b3,rfl,.inr ⟨_,rfl,XX.k3⟩,by show 4≤sizeLine; omega,fun p2 hp2=>?_⟩
  have S3:=Same.upd (o:=HO.lst [V.bl true,.bl b1,.bl b2,.bl b3]) hp2
  refine ⟨_,rfl,i,rfl,i0,fun H4 S4=>?_⟩
  refine ⟨_,rfl,_,rfl,rfl,_,rfl,rfl,_,rfl,rfl,by show 4≤sizeLine; omega,fun p3 hp3=>?_⟩
  have S5:=Same.upd (o:=HO.lst [V.bl true,.bl (decide (V.str (dueS i)=V.str "name")),.bl (decide (V.str (dueS i)=V.str "number")),.bl (decide (V.str (dueS i)=V.str "rule"))]) hp3
  refine ⟨p2,p3,_,_,rfl,rfl,SqL.of (S5 _ _ (S4 _ _ Ag)),SqL.of Ag,rfl,rfl,?_⟩
  have hv:∀ a b:Str,decide (V.str a=V.str b)=decide (a=b):=fun a b=>by
   by_cases h:a=b
   ·rw [h,decide_eq_true rfl,decide_eq_true rfl]
   ·rw [decide_eq_false h,decide_eq_false fun z=>h (V.str.inj z)]
  have he:eqVs [V.bl true,.bl b1,.bl b2,.bl b3] [V.bl true,.bl (decide (V.str (dueS i)=V.str "name")),.bl (decide (V.str (dueS i)=V.str "number")),.bl (decide (V.str (dueS i)=V.str "rule"))]=true:=by
   rw [hv,hv,hv,← e1,← e2,← e3]
   clear e1 e2 e3 XX
   cases b1 <;> cases b2 <;> cases b3 <;> rfl
  show Q (.bl (eqVs _ _)) _
  rw [he]
  exact k _ ((((S1.trans S2).trans S3).trans S4).trans S5)
theorem F7:Al ["_law_which","_law_things","_law_name","_law_cell","_law_told"] ["_law_which","_law_things","_law_name","_law_cell"] (defScope Rp):=⟨rfl,rfl,rfl,by decide +kernel,rfl,by decide +kernel,by decide +kernel⟩
theorem Y0 {f gc gd:Addr} (F:FunB K "_law_by_name" "_law_by_name" Rp f ["_law_which","_law_things","_law_name","_law_cell"]) (Z:Excs K mg CE CN CM CR)
  (G:FnX P w K mg base 11 gc ["_law_which","_law_things","_law_name","_law_cell"] (Q1 K CS CW CB CN CM CR)) (hgc:mg "_law_call"=some (.ref gc)) (Gd:FnP P w K mg base 1 gd ["_law_which"] aM) (hgd:mg "_law_due"=some (.ref gd)) :
  FnP P w K mg base 13 f ["_law_which","_law_things","_law_name","_law_cell"] (spBy K CS CW CB):=by
 obtain ⟨fd,G,hb,hk⟩:=G
 refine F.ok F7 (fun vs H Q E h=>?_) (fun cdv A outer s H vs Q E hr h=>?_)
 ·obtain ⟨i,c,l,nm,rfl,_⟩:=h
  rfl
 ·obtain ⟨i,c,l,nm,rfl,i0,i6,th,gn1,k⟩:=h
  refine ⟨_,Ad (A3 (i:=4) F7.nd rfl (Or.inl rfl) A4)
   (Ad (bT G (hr.mono (by decide)) rfl hgc hk hb .nil (Aa (pv 0) (Aa (pv 1) (Aa (pv 2) (Aa (pv 3) Ac))))
      (Rt rfl Z.gn (fun a=>Af (A3 (i:=4) F7.nd rfl (Or.inl rfl) A4)) (Rt rfl Z.gm (fun a=>Af (A3 (i:=4) F7.nd rfl (Or.inl rfl) A4)) (Rt rfl Z.gr (fun a=>Af (A3 (i:=4) F7.nd rfl (Or.inl rfl) A4)) bX))) ⟨rfl,rfl,rfl⟩)
   (Af (As (Ep Bo (pv 4) (Am Gd (hr.mono (by decide)) hgd (Aa (pv 0) Ac)) (Au _))))),?_⟩
  have fin:∀ (x:Str) (H2:Hp),Same H H2->dueS i=x->Q (.bl (decide (V.str x=V.str (dueS i)))) H2:=fun x H2 S e=>by
   rw [← e,decide_eq_true rfl]
   exact k _ S
  refine ⟨_,rfl,_,rfl,_,rfl,_,rfl,i,c,l,nm,rfl,i0,i6,th,gn1,fun H2 S2=>⟨_,rfl,?_⟩⟩
  rcases Qi CN CM CR i with ⟨h1,h2⟩ | ⟨h1,h2⟩ | ⟨h1,h2⟩
  ·rw [h1]
   refine ⟨_,Z.n.e1,iteT ?_⟩
   exact ⟨_,rfl,_,rfl,i,rfl,i0,fun H3 S3=>⟨rfl,fin _ H3 (S2.trans S3) h2⟩⟩
  ·rw [h1]
   refine ⟨_,Z.m.e1,iteF ⟨_,Z.m.e2,iteT ?_⟩⟩
   exact ⟨_,rfl,_,rfl,i,rfl,i0,fun H3 S3=>⟨rfl,fin _ H3 (S2.trans S3) h2⟩⟩
  ·rw [h1]
   refine ⟨_,Z.r.e1,iteF ⟨_,Z.r.e2,iteF ⟨_,Z.r.e3,iteT ?_⟩⟩⟩
   exact ⟨_,rfl,_,rfl,i,rfl,i0,fun H3 S3=>⟨rfl,fin _ H3 (S2.trans S3) h2⟩⟩
end
end Lk

namespace Lk
open PySem L2
theorem F4 {α:Type} {r:α->α->Prop} (asy:∀ a b,r a b->¬ r b a):∀ {l m:List α},l.Perm m->l.Pairwise r->m.Pairwise r->l=m
 | [],m,p,_,_=>(List.nil_perm.mp p).symm
 | x::l,[],p,_,_=>by cases List.perm_nil.mp p
 | x::l,y::m,p,h1,h2=>by
   obtain ⟨a1,a2⟩:=List.pairwise_cons.mp h1
   obtain ⟨b1,b2⟩:=List.pairwise_cons.mp h2
   have e:x=y:=by
    rcases List.mem_cons.mp (p.mem_iff.mp List.mem_cons_self) with e | e
    ·exact e
    ·rcases List.mem_cons.mp (p.mem_iff.mpr List.mem_cons_self) with e' | e'
     ·exact e'.symm
     ·exact absurd (a1 y e') (asy _ _ (b1 x e))
   subst e
   rw [F4 asy (List.Perm.cons_inv p) a2 b2]
theorem dF {S:BS} (nd:(An S.ents).Nodup) {e:Str×Int×Int} (he:e∈S.ents):Im S e.1=e.2.2:=by
 obtain ⟨a,b,hab⟩:=List.append_of_mem he
 have hn:e.1∉An a:=fun z=>by
  rw [hab] at nd
  unfold An at nd
  rw [List.map_append,List.map_cons] at nd
  exact (List.nodup_append.mp nd).2.2 e.1 z e.1 List.mem_cons_self rfl
 unfold Im lstE
 rw [hab,Dt hn]
 rfl
theorem N7 {S:BS} {st:Int} {t a b:ShS} (nt:t.stand.Nodup) (ne:(An S.ents).Nodup) (pa:Ji S st t a) (pb:Ji S st t b):a=b:=by
 obtain ⟨qs,h1,h2,h3,h4⟩:=pa.og nt ne
 obtain ⟨rs,g1,g2,g3,g4⟩:=pb.og nt ne
 have form:∀ l:List (Int×Str),(∀ q∈l,∃ e∈S.ents,e.1=q.2∧e.2.2=q.1)->l=(l.map (·.2)).map fun n=>(Im S n,n):=fun l h=>by
  rw [List.map_map]
  symm
  refine (List.map_congr_left (g:=id) fun q hq=>?_).trans (List.map_id l)
  obtain ⟨e,he,e1,e2⟩:=h q hq
  show (Im S q.2,q.2)=q
  rw [← e1,dF ne he,e2,e1]
 have pq:qs.Perm rs:=by
  rw [form qs h4,form rs g4]
  exact (h3.trans g3.symm).map _
 have e:qs=rs:=F4 (r:=fun a b=>a.1<b.1) (fun a b h=>by omega) pq h2 g2
 obtain ⟨p1,s1,o1⟩:=a
 obtain ⟨p2,s2,o2⟩:=b
 have a1:=pa.pl
 have a2:=pb.pl
 have b1:=pa.st
 have b2:=pb.st
 dsimp only at a1 a2 b1 b2 h1 g1
 rw [a1,a2,b1,b2,h1,g1,e]
theorem eW {S:BS} {n:Str} {t a b:ShS} (inj:∀ x∈S.ents,∀ y∈S.ents,x.2.2=y.2.2->x.1=y.1) (sin:Bn S t) (ha:AskT S n t a) (hb:AskT S n t b):a=b:=by
 unfold AskT at ha hb
 by_cases hn:n∈t.stand
 ·rw [if_pos hn] at ha hb; rw [ha,hb]
 ·rw [if_neg hn] at ha hb
  unfold Jh at ha hb
  by_cases hf:(t.stand.length:Int)=t.places
  ·rw [if_pos hf] at ha hb
   obtain ⟨x,hx,mx,rfl⟩:=ha
   obtain ⟨y,hy,my,rfl⟩:=hb
   rw [dI inj (sin x hx) (sin y hy) (my x hx) (mx y hy)]
  ·rw [if_neg hf] at ha hb; rw [ha,hb]
theorem eV {S:BS} {n:Str} {t t':ShS} (h:AskT S n t t'):t'.places=t.places∧∀ m∈t'.stand,m=n∨m∈t.stand:=by
 unfold AskT at h
 by_cases hn:n∈t.stand
 ·rw [if_pos hn] at h; rw [h]; exact ⟨rfl,fun m hm=>.inr hm⟩
 ·rw [if_neg hn] at h
  unfold Jh at h
  by_cases hf:(t.stand.length:Int)=t.places
  ·rw [if_pos hf] at h
   obtain ⟨x,hx,_,rfl⟩:=h
   refine ⟨rfl,fun m hm=>?_⟩
   rcases List.mem_append.mp hm with z | z
   ·exact .inr (List.mem_filter.mp z).1
   ·exact .inl (List.mem_singleton.mp z)
  ·rw [if_neg hf] at h
   rw [h]
   refine ⟨rfl,fun m hm=>?_⟩
   rcases List.mem_append.mp hm with z | z
   ·exact .inr z
   ·exact .inl (List.mem_singleton.mp z)
theorem Qk {S:BS} {d:Dd} {t u:ShS} {v:V} (nd:(An S.ents).Nodup) (sin:Bn S t) (h:Pa S d t u v):Bn (El S d) u∧u.places=t.places:=by
 cases d with
 | ask n w=>
   obtain ⟨t1,p,a,_⟩:=h
   have s1:Bn (Bb (A0 S) 1) t1:=Bn.passed (S:=A0 S) sin nd p
   obtain ⟨e,m⟩:=eV a
   exact ⟨Bn.grow fun x hx=>(m x hx).imp id (s1 x),by rw [e,p.pl]⟩
 | rest z=>
   obtain ⟨p,_⟩:=h
   exact ⟨Bn.passed (S:=A0 S) sin nd p,p.pl⟩
 | drop n=>
   obtain ⟨p,_⟩:=h
   obtain ⟨e,pl,_⟩:=Lj p
   exact ⟨fun m hm=>sin m (by rw [e] at hm; exact (List.mem_filter.mp hm).1),pl⟩
theorem Zl {S:BS} {d:Dd} {t a b:ShS} {v u:V} (fit:Fit S) (fit1:Fit (Bb (A0 S) 1)) (sin:Bn S t) (nt:t.stand.Nodup) (ha:Pa S d t a v) (hb:Pa S d t b u):a=b∧v=u:=by
 cases d with
 | ask n w=>
   obtain ⟨t1,p,x,rfl⟩:=ha
   obtain ⟨t2,p2,x2,rfl⟩:=hb
   have e:=N7 nt fit.deed.nd p p2
   subst e
   exact ⟨eW fit1.inj (Bn.passed (S:=A0 S) sin fit.nd p) x x2,rfl⟩
 | rest z=>
   obtain ⟨p,rfl⟩:=ha
   obtain ⟨p2,rfl⟩:=hb
   exact ⟨N7 nt fit.deed.nd p p2,rfl⟩
 | drop n=>
   obtain ⟨p,rfl⟩:=ha
   obtain ⟨p2,rfl⟩:=hb
   unfold O9 at p p2
   exact ⟨p.trans p2.symm,rfl⟩
structure ShOk (k:Nat) (pl:Int) (S:BS) (t:ShS):Prop where
 sin:Bn S t
 tp:t.places=pl
 mn:t.many≤k
theorem ShOk.step {k:Nat} {pl:Int} {S:BS} {t u:ShS} {d:Dd} {v:V} (h:ShOk k pl S t) (nd:(An S.ents).Nodup) (nt:t.stand.Nodup) (st:Pa S d t u v):ShOk (k+1) pl (El S d) u:=
 ⟨(Qk nd h.sin st).1,(Qk nd h.sin st).2.trans h.tp,Nat.le_trans (Wk nt st) (Nat.succ_le_succ h.mn)⟩
theorem Z8 {L:Line} (h:Tr L) (hn:∀ i m,¬ Has L i m):L=[]:=by
 induction L with
 | nil=>rfl
 | cons x r ih=>
   have hr:r=[]:=ih (Ek h) fun i m z=>hn (i+1) m z
   subst hr
   cases x with
   | some m=>exact absurd rfl (hn 0 m)
   | none=>
     unfold Tr at h
     rw [Co,if_pos ⟨rfl,rfl⟩] at h
     cases h
theorem Z9:∀ {L M:Line},Tr L->Tr M->(∀ i m,Has L i m↔Has M i m)->L=M
 | [],M,_,hM,h=>(Z8 hM fun i m z=>by
    have:=(h i m).mpr z
    unfold Has at this
    simp at this).symm
 | x::r,[],hL,_,h=>Z8 hL fun i m z=>by
    have:=(h i m).mp z
    unfold Has at this
    simp at this
 | x::r,y::q,hL,hM,h=>by
   have hr:r=q:=Z9 (Ek hL) (Ek hM) fun i m=>h (i+1) m
   have e:x=y:=by
    cases x with
    | some m=>
      have:some y=some (some m):=(h 0 m).mp rfl
      exact (Option.some.inj this).symm
    | none=>
      cases y with
      | none=>rfl
      | some m=>
        have:some (none:Option Str)=some (some m):=(h 0 m).mpr rfl
        cases this
   rw [e,hr]
theorem Py {S:BS} {k:Int} {L A B:Line} (tr:Tr L) (a:Ls S k L A) (b:Ls S k L B):A=B:=Z9 (a.2.2 tr) (b.2.2 tr) fun i m=>(a.1 i m).trans (b.1 i m).symm
theorem X8 {S:BS} {d:Dd} {t a b:RoS} {s1 s2:Option Nat} {v u:V} (tr:Tr t.line) (ha:U2 S d t a s1 v) (hb:U2 S d t b s2 u):a=b∧v=u:=by
 obtain ⟨x1,x2,x3⟩:=ha
 obtain ⟨y1,y2,y3⟩:=hb
 have key:a.line=b.line∧s1=s2:=by
  cases d with
  | ask n w=>
    obtain ⟨A,p,e1,e2⟩:=x1
    obtain ⟨B,p',e1',e2'⟩:=y1
    have e:=Py tr p p'
    subst e
    exact ⟨e2.trans e2'.symm,e1.trans e1'.symm⟩
  | rest z=>exact ⟨Py tr x1.1 y1.1,x1.2.trans y1.2.symm⟩
  | drop n=>exact ⟨x1.1.trans y1.1.symm,x1.2.trans y1.2.symm⟩
 obtain ⟨k1,rfl⟩:=key
 obtain ⟨l1,m1⟩:=a
 obtain ⟨l2,m2⟩:=b
 dsimp only at k1 x2 y2
 rw [k1,x2,y2,x3,y3]
 exact ⟨rfl,rfl⟩
structure U3 (k:Nat) (S:BS) (t:RoS):Prop where
 nd:ND t.line
 lin:Cw S t.line
 tr:Tr t.line
 ln:t.line.length≤k
 mt:∃ ss,RowN ss k t.met
theorem U3.step {ns:List Str} {sp pt:Int} {k:Nat} {S:BS} {t u:RoS} {d:Dd} {s:Option Nat} {v:V} (h:U3 k S t) (N:Now ns sp pt k S) (st:U2 S d t u s v):U3 (k+1) (El S d) u:=by
 obtain ⟨a,b,c⟩:=O7.ok N h.nd h.lin st.1
 refine ⟨a,b,O7.tr h.tr st.1,Nat.le_trans c (Nat.succ_le_succ h.ln),?_⟩
 obtain ⟨ss,hn⟩:=h.mt
 have hn':=hn.congr (ss':=fun j=>if j<k then ss j else s) fun p=>P2 k (Nat.le_refl _)
 have hs:(fun j=>if j<k then ss j else s) k=s:=if_neg (by omega)
 refine ⟨fun j=>if j<k then ss j else s,?_⟩
 obtain ⟨s1,s2,_⟩:=st
 rw [s2]
 cases s with
 | none=>exact hn'.same hs
 | some i=>
   refine hn'.inc ?_ hs
   cases d with
   | rest z=>cases s1.2
   | drop n=>cases s1.2
   | ask n w=>
     obtain ⟨L1,h1,h2,_⟩:=s1
     have:=Jc (Do h2.symm).1
     have:=h1.2.1
     have:=h.ln
     omega
end Lk

namespace Lk
open PySem L2
def ansB (S:BS):Dd->V
 | .ask n _=>.bl (A1 (Bb (A0 S) 1).ents n).isSome
 | .rest k=>.int (Bl S k)
 | .drop _=>.bl false
section
variable {P:Program} {w:World} {K:PySem.W.Frag} {mg:Str->Option Value} {base:Heap} {τ:Type} {C CS CW CB:Addr}
section
variable (𝒪:Objs τ C)
def iI:Sp:=fun vs H Q _=>∃ (κ:Kd τ) (S:BS) (t:τ) (q:Addr) (d:Dd) (ns:List Str),𝒪.is κ∧vs=[.ref κ.p,.ref q]∧H q=some (.tup (Dd.v d))∧Ah κ S t H∧Fit S∧Fit (Bb (A0 S) 1)∧Qt ns d∧(∀ n∈ns,A5 n) ∧
 ∀ t' H',Ah κ (El S d) t' H'->Fr κ H H'->Q (ansB S d) H'
theorem eI {fadeF:Int->Str->Int->τ->τ} {vs:List V} {H:Hp} {Q:VK} {E:XK} (h:iI 𝒪 vs H Q E):spDo C (W4 𝒪 fadeF) (Es 𝒪 fadeF) (Q5 𝒪) vs H Q E:=by
 obtain ⟨κ,S,t,q,d,ns,hκ,rfl,hq,B0,fit,fit1,gd,gn,k⟩:=h
 have hC:=𝒪.cls κ hκ
 have O:=𝒪.ok κ hκ
 obtain ⟨dx,h1⟩:=B0.ob
 rw [hC] at h1
 refine ⟨κ.p,q,dx,d,_,rfl,hq,h1,B0.fno O (by decide +kernel) (by decide +kernel),B0.fno O (by decide +kernel) (by decide +kernel),B0.fno O (by decide +kernel) (by decide +kernel),?_⟩
 cases d with
 | ask n w=>exact ⟨κ,S,t,n,w,hκ,rfl,B0,fit,fit1,gn n gd.1,gd.2.1,gd.2.2,fun t' H' _ b f=>k t' H' b f⟩
 | rest z=>exact ⟨κ,S,t,z,hκ,rfl,B0,fit,gd.1,gd.2,fun t' H' _ b f=>k t' H' b f⟩
 | drop n=>exact ⟨κ,S,t,n,hκ,rfl,B0,gn n gd,fun H' b f=>k t H' b f⟩
end
structure DoM (P:Program) (w:World) (K:PySem.W.Frag) (mg:Str->Option Value) (base:Heap) (C:Addr) (spA spR spD:Sp):Prop where
 cl:Cls K C
 ask:∃ (ga:Addr) (fd:FuncData) (t0:Tok),FnOk P w K mg base CX0 20 ga fd ["self","name","weight"] spA∧B8 K fd ["self","name","weight"] []∧B8 K fd ["self","name","weight"] [.int 1 t0]∧Meth K C "ask" ga
 rst:∃ g,FnP P w K mg base 20 g ["self","steps"] spR∧Meth K C "rest" g
 drp:∃ g,FnP P w K mg base 20 g ["self","name"] spD∧Meth K C "drop" g
theorem Sy {f:Addr} {spA spR spD:Sp} (M:DoM P w K mg base C spA spR spD) {cdv:Value} {A:Around} {outer:List Env} {s:Shared} {H:Hp} {vs:List V} {Q:VK} {E:XK} (hr:Room 20 (A.deeper (PyProof.Rows.envOfC "_law_do" (defScope sDo) s.heap.objs.size f cdv))) (h:spDo C spA spR spD vs H Q E) :
  ∃ t,PSs (cxOf CX0 P w K mg base ["_law_thing","_law_deed_here"] "_law_do" (defScope sDo) f cdv A outer s H E).nox (defBody sDo) t∧t {nx:=fun _ H'=>Q .non H',rt:=Q} (C9 ["_law_thing","_law_deed_here"] vs) H:=by
 have cl:=M.cl
 obtain ⟨ga,fd,t0,Ga,hb0,hb1,Ma⟩:=M.ask
 obtain ⟨gr,Gr,Mr⟩:=M.rst
 obtain ⟨gd,Gd,Md⟩:=M.drp
 obtain ⟨p,q,dx,d,fs,rfl,hq,hp,n1,n2,n3,k⟩:=h
 refine ⟨_,(Ad (Az (Ar Bo (B7 G4 (pv 1) Ab (fun _ _=>rfl)) A4 (Au _)) (Af (As (Aw (pv 0) cl Mr Gr hr (Aa (B7 G4 (pv 1) Ab (fun _ _=>rfl)) Ac)))) Av)
  (Ad (Az (Ar Bo (B7 G4 (pv 1) Ab (fun _ _=>rfl)) A4 (Au _)) (Af (As (Aw (pv 0) cl Md Gd hr (Aa (B7 G4 (pv 1) Ab (fun _ _=>rfl)) Ac)))) Av)
  (Ad (Az (Ar Bo (B7 G4 (pv 1) Ab (fun _ _=>rfl)) Ab (Au _)) (Af (As (Ff (pv 0) cl Ma Ga hr hb1 (show Vals [V.int 1] [Value.int 1 t0] from .cons ⟨t0,rfl⟩ .nil) Fx (Aa (B7 G4 (pv 1) Ab (fun _ _=>rfl)) Ac)))) Av)
  (Af (As (Ff (pv 0) cl Ma Ga hr hb0 .nil Fx (Aa (B7 G4 (pv 1) Ab (fun _ _=>rfl)) (Aa (B7 G4 (pv 1) Ab (fun _ _=>rfl)) Ac)))))))),?_⟩
 cases d with
 | rest z=>
   refine ⟨_,rfl,q,_,_,_,rfl,rfl,SqT.of hq,rfl,rfl,_,rfl,?_⟩
   refine iteT ?_
   exact ⟨_,rfl,p,dx,fs,rfl,hp,n2,_,rfl,q,_,_,_,rfl,rfl,SqT.of hq,rfl,k⟩
 | drop n=>
   refine ⟨_,rfl,q,_,_,_,rfl,rfl,SqT.of hq,rfl,rfl,_,rfl,?_⟩
   refine iteF ?_
   refine ⟨_,rfl,q,_,_,_,rfl,rfl,SqT.of hq,rfl,rfl,_,rfl,?_⟩
   refine iteT ?_
   exact ⟨_,rfl,p,dx,fs,rfl,hp,n3,_,rfl,q,_,_,_,rfl,rfl,SqT.of hq,rfl,k⟩
 | ask n w=>
   refine ⟨_,rfl,q,_,_,_,rfl,rfl,SqT.of hq,rfl,rfl,_,rfl,?_⟩
   refine iteF ?_
   refine ⟨_,rfl,q,_,_,_,rfl,rfl,SqT.of hq,rfl,rfl,_,rfl,?_⟩
   refine iteF ?_
   refine ⟨_,rfl,q,_,_,_,rfl,rfl,SqT.of hq,rfl,rfl,_,rfl,?_⟩
   refine ite2 (fun h1=>?_) (fun _=>?_)
   ·have h1:w=1:=V.int.inj (of_decide_eq_true h1)
    subst h1
    exact ⟨_,rfl,p,dx,fs,rfl,hp,n1,_,rfl,q,_,_,_,rfl,rfl,SqT.of hq,rfl,k⟩
   ·exact ⟨_,rfl,p,dx,fs,rfl,hp,n1,_,rfl,q,_,_,_,rfl,rfl,SqT.of hq,rfl,_,rfl,q,_,_,_,rfl,rfl,SqT.of hq,rfl,k⟩
def iJ (CS CW CB:Addr):Sp:=fun vs H Q E=>iG CS vs H Q E∨iH CW vs H Q E∨iI (Bg CB) vs H Q E
theorem jX {f:Addr} (F:FunB K "_law_do" "_law_do" sDo f ["_law_thing","_law_deed_here"]) (M1:DoM P w K mg base CS (Qz CS) (Es (Aq CS) Bu) (Lx CS)) (M2:DoM P w K mg base CW (Q0 CW) (Es (rows CW) Df) (Ly CW)) (M3:DoM P w K mg base CB (W4 (Bg CB) Fy) (Es (Bg CB) Fy) (Q5 (Bg CB))) :
  FnP P w K mg base 21 f ["_law_thing","_law_deed_here"] (iJ CS CW CB):=by
 refine F.ok scDo (fun vs H Q E h=>?_) (fun cdv A outer s H vs Q E hr h=>?_)
 ·rcases h with h | h | h
  ·obtain ⟨p,q,dx,d,fs,rfl,_⟩:=eE h; rfl
  ·obtain ⟨p,q,dx,d,fs,rfl,_⟩:=eF h; rfl
  ·obtain ⟨p,q,dx,d,fs,rfl,_⟩:=eI (fadeF:=Fy) _ h; rfl
 ·rcases h with h | h | h
  ·exact Sy M1 hr (eE h)
  ·exact Sy M2 hr (eF h)
  ·exact Sy M3 hr (eI (fadeF:=Fy) _ h)
def X2:V->Prop
 | .non=>True
 | .int _=>True
 | .bl _=>True
 | _=>False
def aH:Sp:=fun vs H Q _=>∃ v:V,vs=[v,v]∧X2 v∧Q (.bl true) H
theorem jF:Al ["_law_found","_law_due_here"] ["_law_found","_law_due_here"] (defScope bH):=⟨rfl,rfl,rfl,by decide +kernel,rfl,by decide +kernel,by decide +kernel⟩
theorem gI {f:Addr} (F:FunB K "_law_same" "_law_same" bH f ["_law_found","_law_due_here"]) (B:Blt mg):FnP P w K mg base 1 f ["_law_found","_law_due_here"] aH:=by
 refine F.ok jF (fun vs H Q E h=>?_) (fun cdv A outer s H vs Q E hr h=>?_)
 ·obtain ⟨v,rfl,_⟩:=h; rfl
 ·obtain ⟨v,rfl,pl,k⟩:=h
  refine ⟨_,Ad (Az (Ar Rx (pv 1) D0 (Au _)) (Af (As (Ep Rx (pv 0) D0 (Au _)))) Av)
   (Af (As (Rv (Fh B.isi B.int (pv 0) PyProof.Rows.boot_int) (Rv (Ep Bo (Fh B.isi B.bool (pv 0) PyProof.Rows.boot_bool) (Fh B.isi B.bool (pv 1) PyProof.Rows.boot_bool) (Au _)) (Vr (Ep Bo (pv 0) (pv 1) (Au _))))))),?_⟩
  cases v with
  | non=>exact ⟨_,rfl,rfl,_,rfl,iteT ⟨_,rfl,rfl,k⟩⟩
  | int i=>
    refine ⟨_,rfl,rfl,_,rfl,iteF ⟨_,rfl,_,"int",_,_,rfl,.int i,Wa K,_,rfl,iteT ⟨_,rfl,_,"bool",_,_,rfl,.int i,R9 K,_,rfl,_,"bool",_,_,rfl,.int i,R9 K,rfl,_,rfl,iteT ⟨_,rfl,_,rfl,?_⟩⟩⟩⟩
    refine ⟨rfl,?_⟩
    rw [decide_eq_true rfl]
    exact k
  | bl b=>
    refine ⟨_,rfl,rfl,_,rfl,iteF ⟨_,rfl,_,"int",_,_,rfl,.bl b,kB K,_,rfl,iteT ⟨_,rfl,_,"bool",_,_,rfl,.bl b,Wb K,_,rfl,_,"bool",_,_,rfl,.bl b,Wb K,rfl,_,rfl,iteT ⟨_,rfl,_,rfl,?_⟩⟩⟩⟩
    refine ⟨rfl,?_⟩
    rw [decide_eq_true rfl]
    exact k
  | _=>exact pl.elim
end
end Lk

namespace Lk
open PySem L2
theorem Z4 {S:BS} {xs ys zs:List Str} (a:Weak S xs ys) (b:Weak S xs zs):ys=zs:=
 F4 (r:=fun a b=>HT.A7 (Bd S a) (Bd S b)=true) (fun a b h1 h2=>by rw [P7 h1] at h2; cases h2) (a.1.trans b.1.symm) a.2 b.2
theorem Qe (ns:List Str):(ns.map V.str).all Cv=true:=by
 rw [List.all_map]
 exact List.all_eq_true.mpr fun x _=>rfl
section
variable {P:Program} {w:World} {K:PySem.W.Frag} {mg:Str->Option Value} {base:Heap} {τ:Type} {C CS CW CB:Addr}
def spNm (𝒪:Objs τ C) (nms:BS->τ->List Str):Sp:=fun vs H Q _=>∃ (κ:Kd τ) (S:BS) (t:τ),𝒪.is κ∧vs=[.ref κ.p]∧Ah κ S t H∧Ch S (nms S t)∧∀ l H' ys,H l=none->Same H H'->H' l=some (.lst (ys.map V.str))->Weak S (nms S t) ys->Q (.ref l) H'
structure TwM (P:Program) (w:World) (K:PySem.W.Frag) (mg:Str->Option Value) (base:Heap) {τ:Type} {C:Addr} (𝒪:Objs τ C) (nms:BS->τ->List Str):Prop where
 cl:Cls K C
 nm:∃ g,FnP P w K mg base 10 g ["self"] (spNm 𝒪 nms)∧Meth K C "names" g
 tm:∃ g,FnP P w K mg base 1 g ["self"] (aF 𝒪)∧Meth K C "time_now" g
 dd:∃ g,FnP P w K mg base 1 g ["self"] (W3 𝒪)∧Meth K C "deeds_done" g
 cn:∃ g,FnP P w K mg base 4 g ["self","name"] (Pm 𝒪)∧Meth K C "count_of" g
 ls:∃ g,FnP P w K mg base 4 g ["self","name"] (Tq 𝒪)∧Meth K C "last_of" g
def spTw (K:PySem.W.Frag) (𝒪:Objs τ C) (nms:BS->τ->List Str):Sp:=fun vs H Q _=>∃ (κ κ':Kd τ) (S:BS) (t:τ) (l:Addr) (ns:List Str),𝒪.is κ∧𝒪.is κ'∧vs=[.ref κ.p,.ref κ'.p,.ref l]∧Ah κ S t H∧Ah κ' S t H∧Ch S (nms S t)∧SqL K H l (ns.map V.str)∧(∀ n∈ns,A5 n)∧∀ H',Same H H'->Q (.bl true) H'
theorem W8:Al ["_law_thing","_law_twin","_law_names_here","_law_name"] ["_law_thing","_law_twin","_law_names_here"] (defScope Kl):=⟨rfl,rfl,rfl,by decide +kernel,rfl,by decide +kernel,by decide +kernel⟩
theorem Qx {f:Addr} {𝒪:Objs τ C} {nms:BS->τ->List Str} (M:TwM P w K mg base 𝒪 nms) {cdv:Value} {A:Around} {outer:List Env} {s:Shared} {H:Hp} {vs:List V} {Q:VK} {E:XK} (hr:Room 11 (A.deeper (PyProof.Rows.envOfC "_law_twins" (defScope Kl) s.heap.objs.size f cdv))) (h:spTw K 𝒪 nms vs H Q E) :
  ∃ t,PSs (cxOf CX0 P w K mg base ["_law_thing","_law_twin","_law_names_here","_law_name"] "_law_twins" (defScope Kl) f cdv A outer s H E).nox (defBody Kl) t∧t {nx:=fun _ H'=>Q .non H',rt:=Q} (C9 ["_law_thing","_law_twin","_law_names_here","_law_name"] vs) H:=by
 have cl:=M.cl
 obtain ⟨gn,Gn,Mn⟩:=M.nm
 obtain ⟨gt,Gt,Mt⟩:=M.tm
 obtain ⟨gd,Gd,Md⟩:=M.dd
 obtain ⟨gc,Gc,Mc⟩:=M.cn
 obtain ⟨gl,Gl,Ml⟩:=M.ls
 obtain ⟨κ,κ',S,t,l,ns,hκ,hκ',rfl,B,B',so,hl,gn1,k⟩:=h
 have hu:=Dj hr
 have O:=𝒪.ok κ hκ
 have O':=𝒪.ok κ' hκ'
 have hC:=𝒪.cls κ hκ
 have hC':=𝒪.cls κ' hκ'
 refine ⟨_,Ad (Az (PW.pt (K8 (Ar (cC (Nat.lt_of_succ_lt hu)) (Cp (pv 0) cl Mn Gn (hr.mono (by decide))) (Cp (pv 1) cl Mn Gn (hr.mono (by decide))) (Au _)) (K8 (Ar Ub (Cp (pv 0) cl Mt Gt (hr.mono (by decide))) (Cp (pv 1) cl Mt Gt (hr.mono (by decide))) (Au _)) (Iy (Ar Ub (Cp (pv 0) cl Md Gd (hr.mono (by decide))) (Cp (pv 1) cl Md Gd (hr.mono (by decide))) (Au _)))))) (Af (As C3)) Av)
  (Ad (Ko PassesOwn.never rfl (Mj (pv 2)) (By (i:=3) W8.nd rfl (Or.inl rfl)) (Af (Az (PW.pt (K8 (Ar Ub (Aw (pv 0) cl Mc Gc (hr.mono (by decide)) (Aa (pv 3) Ac)) (Aw (pv 1) cl Mc Gc (hr.mono (by decide)) (Aa (pv 3) Ac)) (Au _)) (Iy (Ar Ub (Aw (pv 0) cl Ml Gl (hr.mono (by decide)) (Aa (pv 3) Ac)) (Aw (pv 1) cl Ml Gl (hr.mono (by decide)) (Aa (pv 3) Ac)) (Au _))))) (Af (As C3)) Av)))
  (Af (As C3))),?_⟩
 have ob:∀ {H':Hp},Ah κ S t H'->∃ dx,H' κ.p=some (.ins C dx (Bm S κ.dc κ.dl (κ.ex t))):=fun b=>by
  obtain ⟨dx,h1⟩:=b.ob
  rw [hC] at h1
  exact ⟨dx,h1⟩
 have ob':∀ {H':Hp},Ah κ' S t H'->∃ dx,H' κ'.p=some (.ins C dx (Bm S κ'.dc κ'.dl (κ'.ex t))):=fun b=>by
  obtain ⟨dx,h1⟩:=b.ob
  rw [hC'] at h1
  exact ⟨dx,h1⟩
 obtain ⟨dx,h1⟩:=ob B
 refine ⟨_,rfl,κ.p,dx,_,rfl,h1,B.fno O (by decide +kernel) (by decide +kernel),κ,S,t,hκ,rfl,B,so,fun l1 H1 ys n1 S1 hl1 w1=>?_⟩
 have B1:=B.same O S1
 have B1':=B'.same O' S1
 obtain ⟨dy,h1'⟩:=ob' B1'
 refine ⟨_,rfl,κ'.p,dy,_,rfl,h1',B1'.fno O' (by decide +kernel) (by decide +kernel),κ',S,t,hκ',rfl,B1',so,fun l2 H2 zs n2 S2 hl2 w2=>?_⟩
 have e:=Z4 w1 w2
 subst e
 have B2:=B1.same O S2
 have B2':=B1'.same O' S2
 refine ⟨l1,l2,_,_,rfl,rfl,SqL.of (S2 _ _ hl1),SqL.of hl2,Qe _,Qe _,?_⟩
 rw [if_pos rfl,Qg,decide_eq_true rfl]
 refine ⟨_,rfl,iteF ?_⟩
 obtain ⟨dx,h2⟩:=ob B2
 obtain ⟨dy,h2'⟩:=ob' B2'
 refine ⟨_,rfl,κ.p,dx,_,rfl,h2,B2.fno O (by decide +kernel) (by decide +kernel),κ,S,t,hκ,rfl,B2,_,rfl,κ'.p,dy,_,rfl,h2',B2'.fno O' (by decide +kernel) (by decide +kernel),κ',S,t,hκ',rfl,B2',rfl,?_⟩
 rw [decide_eq_true rfl]
 refine ⟨_,rfl,iteF ?_⟩
 refine ⟨_,rfl,κ.p,dx,_,rfl,h2,B2.fno O (by decide +kernel) (by decide +kernel),κ,S,t,hκ,rfl,B2,_,rfl,κ'.p,dy,_,rfl,h2',B2'.fno O' (by decide +kernel) (by decide +kernel),κ',S,t,hκ',rfl,B2',rfl,?_⟩
 rw [decide_eq_true rfl]
 refine ⟨_,rfl,iteF ?_⟩
 refine ⟨_,rfl,l,rfl,⟨_,Na hl (S1.trans S2)⟩,Ot (K:=K) (a:=l) (xs:=ns.map V.str) (fun i σ H'=>∃ z,σ=[some (.ref κ.p),some (.ref κ'.p),some (.ref l),z]∧Same H H') ⟨none,rfl,S1.trans S2⟩ (fun i σ H' _ q=>by obtain ⟨z,_,s⟩:=q; exact Na hl s) ?_ ?_⟩
 ·rintro i x σ H3 hx ⟨z,rfl,S3⟩
  rw [List.getElem?_map] at hx
  obtain ⟨n,hn,rfl⟩:=Option.map_eq_some_iff.mp hx
  have gn2:=gn1 n (List.mem_of_getElem? hn)
  have B3:=B.same O S3
  have B3':=B'.same O' S3
  obtain ⟨dx,h3⟩:=ob B3
  refine ⟨_,rfl,κ.p,dx,_,rfl,h3,B3.fno O (by decide +kernel) (by decide +kernel),_,rfl,κ,S,t,n,hκ,rfl,gn2,B3,fun H4 S4=>?_⟩
  have B4:=B3.same O S4
  have B4':=B3'.same O' S4
  obtain ⟨dy,h4'⟩:=ob' B4'
  refine ⟨_,rfl,κ'.p,dy,_,rfl,h4',B4'.fno O' (by decide +kernel) (by decide +kernel),_,rfl,κ',S,t,n,hκ',rfl,gn2,B4',fun H5 S5=>⟨rfl,?_⟩⟩
  rw [decide_eq_true rfl]
  refine ⟨_,rfl,iteF ?_⟩
  have B5:=B4.same O S5
  have B5':=B4'.same O' S5
  obtain ⟨dx,h5⟩:=ob B5
  refine ⟨_,rfl,κ.p,dx,_,rfl,h5,B5.fno O (by decide +kernel) (by decide +kernel),_,rfl,κ,S,t,n,hκ,rfl,gn2,B5,fun H6 S6=>?_⟩
  have B6':=B5'.same O' S6
  obtain ⟨dy,h6'⟩:=ob' B6'
  refine ⟨_,rfl,κ'.p,dy,_,rfl,h6',B6'.fno O' (by decide +kernel) (by decide +kernel),_,rfl,κ',S,t,n,hκ',rfl,gn2,B6',fun H7 S7=>⟨by cases lstE S n <;> rfl,?_⟩⟩
  rw [decide_eq_true rfl]
  refine ⟨_,rfl,iteF ?_⟩
  exact ⟨_,rfl,(((S3.trans S4).trans S5).trans S6).trans S7⟩
 ·rintro σ H3 ⟨z,rfl,S3⟩
  exact k _ S3
def Ww (K:PySem.W.Frag) (CS CW CB:Addr):Sp:=fun vs H Q E=>spTw K (Aq CS) (fun _ t=>t.stand) vs H Q E∨spTw K (rows CW) (fun _ t=>Cl t.line) vs H Q E∨spTw K (Bg CB) (fun S _=>An S.ents) vs H Q E
theorem cF {f:Addr} (F:FunB K "_law_twins" "_law_twins" Kl f ["_law_thing","_law_twin","_law_names_here"]) (M1:TwM P w K mg base (Aq CS) (fun _ t=>t.stand)) (M2:TwM P w K mg base (rows CW) (fun _ t=>Cl t.line)) (M3:TwM P w K mg base (Bg CB) (fun S _=>An S.ents)) :
  FnP P w K mg base 12 f ["_law_thing","_law_twin","_law_names_here"] (Ww K CS CW CB):=by
 refine F.ok W8 (fun vs H Q E h=>?_) (fun cdv A outer s H vs Q E hr h=>?_)
 ·rcases h with h | h | h <;> (obtain ⟨κ,κ',S,t,l,ns,_,_,rfl,_⟩:=h; rfl)
 ·rcases h with h | h | h
  ·exact Qx M1 hr h
  ·exact Qx M2 hr h
  ·exact Qx M3 hr h
end
end Lk

namespace Lk
open PySem L2
theorem Ah.other {τ σ:Type} {κ:Kd τ} {κ':Kd σ} {S S':BS} {t:τ} {t':σ} {H H':Hp} (B:Ah κ S t H) (O:KdOk κ) (B':Ah κ' S' t' H) (f:Fr κ' H H') (dis:∀ b,κ.own b->¬ κ'.own b):Ah κ S t H':=by
 obtain ⟨⟨dx,h1⟩,h2,h3,h4,h5⟩:=B
 exact ⟨⟨dx,f _ _ h1 (dis _ O.op)⟩,f _ _ h2 (dis _ O.oc),f _ _ h3 (dis _ O.ol),O.fr t H H' h4 (fun b o e ob _ _ _=>f b o e (dis b ob)) (fun b xs e=>f b _ e (B'.noTup e)),fun b hb=>let ⟨o,e,n⟩:=h5 b hb; ⟨o,f _ _ e (dis b hb),n⟩⟩
theorem Zo {ns:List Int} (k:Int):∃ cs:List Int,cutV (ns.map V.int) (some k) none=cs.map V.int∧cs.length≤ns.length:=by
 refine ⟨(ns.drop (HT.sIx (ns.map V.int).length 0 (some k))).take (HT.sIx (ns.map V.int).length (ns.map V.int).length none - HT.sIx (ns.map V.int).length 0 (some k)),?_,?_⟩
 ·unfold cutV
  rw [List.map_take,List.map_drop]
 ·rw [List.length_take,List.length_drop]; omega
theorem Qh:∀ L:Line,eqVs (Bc L) (Bc L)=true
 | []=>rfl
 | x::r=>by
   show (eqV (optS x) (optS x)&&eqVs (Bc r) (Bc r))=true
   rw [Qh r,Bool.and_true]
   cases x with
   | none=>rfl
   | some n=>simp [optS,eqV]
theorem Oh (L:Line):(Bc L).all Cv=true:=by
 unfold Bc
 rw [List.all_map]
 exact List.all_eq_true.mpr fun x _=>by cases x <;> rfl
structure Obs where
 s:Kd ShS
 s':Kd ShS
 r:Kd RoS
 r':Kd RoS
 b:Kd Unit
 b':Kd Unit
structure Obs.Is (CS CW CB:Addr) (o:Obs):Prop where
 s:(Aq CS).is o.s
 s':(Aq CS).is o.s'
 r:(rows CW).is o.r
 r':(rows CW).is o.r'
 b:(Bg CB).is o.b
 b':(Bg CB).is o.b'
def Cf {τ σ:Type} (κ:Kd τ) (κ':Kd σ):Prop:=∀ b,κ.own b->¬ κ'.own b
theorem Cf.symm {τ σ:Type} {κ:Kd τ} {κ':Kd σ} (h:Cf κ κ'):Cf κ' κ:=fun b z y=>h b y z
structure Obs.Ap (o:Obs):Prop where
 ss:Cf o.s o.s'
 sr:Cf o.s o.r
 sr':Cf o.s o.r'
 sb:Cf o.s o.b
 sb':Cf o.s o.b'
 tr:Cf o.s' o.r
 tr':Cf o.s' o.r'
 tb:Cf o.s' o.b
 tb':Cf o.s' o.b'
 rr:Cf o.r o.r'
 rb:Cf o.r o.b
 rb':Cf o.r o.b'
 ub:Cf o.r' o.b
 ub':Cf o.r' o.b'
 bb:Cf o.b o.b'
structure Obs.At (o:Obs) (Sa Sa':BS) (t t':ShS) (Sb Sb':BS) (u u':RoS) (Sc Sc':BS) (H:Hp):Prop where
 s:Ah o.s Sa t H
 s':Ah o.s' Sa' t' H
 r:Ah o.r Sb u H
 r':Ah o.r' Sb' u' H
 b:Ah o.b Sc () H
 b':Ah o.b' Sc' () H
def Obs.own (o:Obs) (b:Addr):Prop:=o.s.own b∨o.s'.own b∨o.r.own b∨o.r'.own b∨o.b.own b∨o.b'.own b
section
variable {CS CW CB:Addr} {o:Obs} {Sa Sa' Sb Sb' Sc Sc' S1:BS} {t t' t1:ShS} {u u' u1:RoS} {H H':Hp}
theorem Obs.At.same (h:o.At Sa Sa' t t' Sb Sb' u u' Sc Sc' H) (i:o.Is CS CW CB) (e:Same H H'):o.At Sa Sa' t t' Sb Sb' u u' Sc Sc' H':=
 ⟨h.s.same ((Aq CS).ok _ i.s) e,h.s'.same ((Aq CS).ok _ i.s') e,h.r.same ((rows CW).ok _ i.r) e,h.r'.same ((rows CW).ok _ i.r') e,h.b.same ((Bg CB).ok _ i.b) e,h.b'.same ((Bg CB).ok _ i.b') e⟩
theorem Obs.At.new (h:o.At Sa Sa' t t' Sb Sb' u u' Sc Sc' H) {l:Addr} (e:H l=none):¬ o.own l:=by
 rintro (z | z | z | z | z | z)
 ·exact h.s.new e z
 ·exact h.s'.new e z
 ·exact h.r.new e z
 ·exact h.r'.new e z
 ·exact h.b.new e z
 ·exact h.b'.new e z
theorem Obs.At.setS (h:o.At Sa Sa' t t' Sb Sb' u u' Sc Sc' H) (i:o.Is CS CW CB) (p:o.Ap) (f:Fr o.s H H') (n:Ah o.s S1 t1 H'):o.At S1 Sa' t1 t' Sb Sb' u u' Sc Sc' H':=
 ⟨n,h.s'.other ((Aq CS).ok _ i.s') h.s f p.ss.symm,h.r.other ((rows CW).ok _ i.r) h.s f p.sr.symm,h.r'.other ((rows CW).ok _ i.r') h.s f p.sr'.symm,h.b.other ((Bg CB).ok _ i.b) h.s f p.sb.symm,h.b'.other ((Bg CB).ok _ i.b') h.s f p.sb'.symm⟩
theorem Obs.At.setS' (h:o.At Sa Sa' t t' Sb Sb' u u' Sc Sc' H) (i:o.Is CS CW CB) (p:o.Ap) (f:Fr o.s' H H') (n:Ah o.s' S1 t1 H'):o.At Sa S1 t t1 Sb Sb' u u' Sc Sc' H':=
 ⟨h.s.other ((Aq CS).ok _ i.s) h.s' f p.ss,n,h.r.other ((rows CW).ok _ i.r) h.s' f p.tr.symm,h.r'.other ((rows CW).ok _ i.r') h.s' f p.tr'.symm,h.b.other ((Bg CB).ok _ i.b) h.s' f p.tb.symm,h.b'.other ((Bg CB).ok _ i.b') h.s' f p.tb'.symm⟩
theorem Obs.At.setR (h:o.At Sa Sa' t t' Sb Sb' u u' Sc Sc' H) (i:o.Is CS CW CB) (p:o.Ap) (f:Fr o.r H H') (n:Ah o.r S1 u1 H'):o.At Sa Sa' t t' S1 Sb' u1 u' Sc Sc' H':=
 ⟨h.s.other ((Aq CS).ok _ i.s) h.r f p.sr,h.s'.other ((Aq CS).ok _ i.s') h.r f p.tr,n,h.r'.other ((rows CW).ok _ i.r') h.r f p.rr.symm,h.b.other ((Bg CB).ok _ i.b) h.r f p.rb.symm,h.b'.other ((Bg CB).ok _ i.b') h.r f p.rb'.symm⟩
theorem Obs.At.setR' (h:o.At Sa Sa' t t' Sb Sb' u u' Sc Sc' H) (i:o.Is CS CW CB) (p:o.Ap) (f:Fr o.r' H H') (n:Ah o.r' S1 u1 H'):o.At Sa Sa' t t' Sb S1 u u1 Sc Sc' H':=
 ⟨h.s.other ((Aq CS).ok _ i.s) h.r' f p.sr',h.s'.other ((Aq CS).ok _ i.s') h.r' f p.tr',h.r.other ((rows CW).ok _ i.r) h.r' f p.rr,n,h.b.other ((Bg CB).ok _ i.b) h.r' f p.ub.symm,h.b'.other ((Bg CB).ok _ i.b') h.r' f p.ub'.symm⟩
theorem Obs.At.setB (h:o.At Sa Sa' t t' Sb Sb' u u' Sc Sc' H) (i:o.Is CS CW CB) (p:o.Ap) (f:Fr o.b H H') (n:Ah o.b S1 () H'):o.At Sa Sa' t t' Sb Sb' u u' S1 Sc' H':=
 ⟨h.s.other ((Aq CS).ok _ i.s) h.b f p.sb,h.s'.other ((Aq CS).ok _ i.s') h.b f p.tb,h.r.other ((rows CW).ok _ i.r) h.b f p.rb,h.r'.other ((rows CW).ok _ i.r') h.b f p.ub,n,h.b'.other ((Bg CB).ok _ i.b') h.b f p.bb.symm⟩
theorem Obs.At.setB' (h:o.At Sa Sa' t t' Sb Sb' u u' Sc Sc' H) (i:o.Is CS CW CB) (p:o.Ap) (f:Fr o.b' H H') (n:Ah o.b' S1 () H'):o.At Sa Sa' t t' Sb Sb' u u' Sc S1 H':=
 ⟨h.s.other ((Aq CS).ok _ i.s) h.b' f p.sb',h.s'.other ((Aq CS).ok _ i.s') h.b' f p.tb',h.r.other ((rows CW).ok _ i.r) h.b' f p.rb',h.r'.other ((rows CW).ok _ i.r') h.b' f p.ub',h.b.other ((Bg CB).ok _ i.b) h.b' f p.bb,n⟩
theorem M7 {τ:Type} {C:Addr} {𝒪:Objs τ C} {κ:Kd τ} {S:BS} {t:τ} {H:Hp} (hκ:𝒪.is κ) (B:Ah κ S t H):Dl C H κ.p:=by
 obtain ⟨dx,h⟩:=B.ob
 rw [𝒪.cls κ hκ] at h
 refine ⟨dx,_,h,fun m hm=>B.fno (𝒪.ok κ hκ) (fun z=>?_) (fun z=>?_)⟩
 ·revert m; decide +kernel
 ·revert m; decide +kernel
end
theorem Qm {X:Cx}:D4 X (.builtin "isinstance") (fun vs H Q=>∃ x C1 t b,vs=[x,.ref C1]∧TyOf X.K H x t∧PySem.W.kitOne X.K t (.ref C1)=some b∧Q (.bl b) H):=by
 intro pins s σ H xs us Q I r h
 obtain ⟨x,C1,t,b,rfl,ty,e,q⟩:=h
 obtain ⟨u,v,rfl,ru,rv⟩:=Th r
 cases (show v=Value.ref C1 from rv)
 exact Qa I ru ty e fun tk=>⟨.bl b,H,I.tok tk,rfl,q⟩
structure InsK (K:PySem.W.Frag) (C CB:Addr):Prop where
 ha:PySem.W.findIn K (.ref C) "__class__"=some (some (.builtin "object.__class__"))
 hn:PySem.W.specialIn K (.builtin "object.__class__") "__get__"=some (some (.builtin "getset_descriptor.__get__"))
 htk:PySem.W.takesIn K (.builtin "object.__class__")=some true
 hm:PySem.W.mroIn K C (.type "object")=some true
 kit:PySem.W.kitOne K (.ref C) (.ref CB)=some true
end Lk

namespace Lk
open PySem L2
theorem E3 {H Hn:Hp} {x dx C:Addr} (nx:H x=none) (ndx:H dx=none) (kp:∀ b o,(upd (upd H dx (.own x)) x (.ins C dx [])) b=some o->b≠x->Hn b=some o):Same H Hn:=fun b o e=>kp b o (by rw [Ae (Aj e nx),Ae (Aj e ndx)]; exact e) (Aj e nx)
theorem Hz {H:Hp} {x dx C:Addr} {own:Addr->Prop} (nx:H x=none) (ndx:H dx=none) (f:∀ b,own b->b=x∨(upd (upd H dx (.own x)) x (.ins C dx [])) b=none):∀ b,own b->H b=none:=fun b hb=>(f b hb).elim (fun e=>by rw [e]; exact nx) fun e=>by
 have s0:Same H (upd (upd H dx (.own x)) x (.ins C dx [])):=fun b o e=>by rw [Ae (Aj e nx),Ae (Aj e ndx)]; exact e
 exact s0.free e
theorem apart_of {τ σ:Type} {κ:Kd τ} {κ':Kd σ} {S:BS} {t:τ} {H:Hp} (B:Ah κ S t H) (f:∀ b,κ'.own b->H b=none):Cf κ κ':=fun b z y=>by
 obtain ⟨o,e,_⟩:=B.al b z
 rw [f b y] at e
 cases e
open Classical in
noncomputable def cutO (o:Obs) (H:Hp):Hp:=fun b=>if o.own b then none else H b
theorem Ql {o:Obs} {H:Hp} {b:Addr} {u:HO} (h:cutO o H b=some u):¬ o.own b∧H b=some u:=by
 unfold cutO at h
 by_cases e:o.own b
 ·rw [if_pos e] at h; cases h
 ·rw [if_neg e] at h; exact ⟨e,h⟩
theorem Mv {o:Obs} {H:Hp} {b:Addr} (h:¬ o.own b):cutO o H b=H b:=by unfold cutO; rw [if_neg h]
theorem Qn {H:Hp} {C p dc dl dx:Addr} {S:BS} (h1:H p=some (.ins C dx (Bm S dc dl []))) (h2:H dc=some (.dK (tabK mC S.ents))) (h3:H dl=some (.dK (tabK mL S.ents))):Ah (Fz C p dc dl) S () H:=by
 refine ⟨⟨dx,h1⟩,h2,h3,trivial,?_⟩
 rintro b (rfl | rfl | rfl)
 ·exact ⟨_,h1,fun xs z=>by cases z⟩
 ·exact ⟨_,h2,fun xs z=>by cases z⟩
 ·exact ⟨_,h3,fun xs z=>by cases z⟩
theorem Mx {ts:List Addr} {gs:List Ej} {H:Hp} (hl:ts.length=gs.length) (h:∀ (j:Nat) (a:Addr) (g:Ej),ts[j]?=some a->gs[j]?=some g->H a=some (.tup g.v)) :
  ∃ xs:List (Addr×List V),xs.map (fun z=>V.ref z.1)=ts.map V.ref∧xs.map (·.2)=gs.map Ej.v∧∀ z∈xs,H z.1=some (.tup z.2)∧z.2.all Cv=true:=by
 refine ⟨ts.zip (gs.map Ej.v),?_,List.map_snd_zip (by rw [List.length_map]; omega),fun z hz=>?_⟩
 ·have:(ts.zip (gs.map Ej.v)).map (·.1)=ts:=List.map_fst_zip (by rw [List.length_map]; omega)
  calc (ts.zip (gs.map Ej.v)).map (fun z=>V.ref z.1)=((ts.zip (gs.map Ej.v)).map (·.1)).map V.ref:=by rw [List.map_map]; rfl
   _=ts.map V.ref:=by rw [this]
 ·obtain ⟨j,hj⟩:=List.mem_iff_getElem?.mp hz
  rw [List.getElem?_zip_eq_some] at hj
  obtain ⟨h1,h2⟩:=hj
  rw [List.getElem?_map] at h2
  obtain ⟨g,hg,e⟩:=Option.map_eq_some_iff.mp h2
  rw [← e]
  exact ⟨h j _ g h1 hg,rfl⟩
theorem fX {S:BS} {d:Dd} {t u:ShS} {v:V} (h:Pa S d t u v):X2 v:=by
 cases d with
 | ask n w=>obtain ⟨_,_,_,rfl⟩:=h; trivial
 | rest z=>obtain ⟨_,rfl⟩:=h; trivial
 | drop n=>obtain ⟨_,rfl⟩:=h; trivial
theorem fY {S:BS} {d:Dd} {t u:RoS} {s:Option Nat} {v:V} (h:U2 S d t u s v):X2 v:=by
 obtain ⟨_,_,rfl⟩:=h
 cases d with
 | ask n w=>cases s <;> trivial
 | rest z=>trivial
 | drop n=>trivial
theorem fZ {S:BS} {d:Dd}:X2 (ansB S d):=by cases d <;> trivial
theorem getB {τ:Type} {C:Addr} (𝒪:Objs τ C) {κ:Kd τ} {S:BS} {t:τ} {H:Hp} (hκ:𝒪.is κ) (B:Ah κ S t H):∃ dx,H κ.p=some (.ins C dx (Bm S κ.dc κ.dl (κ.ex t))):=by
 obtain ⟨dx,h⟩:=id B.ob
 rw [𝒪.cls κ hκ] at h
 exact ⟨dx,h⟩
structure LG (P:Program) (w:World) (K:PySem.W.Frag) (mg:Str->Option Value) (base:Heap) (CS CW CB:Addr) where
 acell:Addr
 cell:FnP P w K mg base 1 acell ["_law_script","_law_k"] (aP K)
 hcell:mg "_law_cell_at"=some (.ref acell)
 alnames:Addr
 lnames:FnP P w K mg base 3 alnames ["_law_cell","_law_many"] Ts
 hlnames:mg "_law_names"=some (.ref alnames)
 aspan:Addr
 span:FnP P w K mg base 1 aspan ["_law_cell"] (Hq 1 (10 ^ 20))
 hspan:mg "_law_span"=some (.ref aspan)
 apart:Addr
 part:FnP P w K mg base 1 apart ["_law_cell"] (Hq 2 (10 ^ 30))
 hpart:mg "_law_part"=some (.ref apart)
 adeed:Addr
 deed:FnP P w K mg base 1 adeed ["_law_cell","_law_k","_law_names_here","_law_span_here","_law_light"] (aN K)
 hdeed:mg "_law_deed"=some (.ref adeed)
 ado_:Addr
 do_:FnP P w K mg base 21 ado_ ["_law_thing","_law_deed_here"] (iJ CS CW CB)
 hdo_:mg "_law_do"=some (.ref ado_)
 abase_:Addr
 base_:FnP P w K mg base 13 abase_ ["_law_which","_law_things","_law_name","_law_cell"] (spBy K CS CW CB)
 hbase_:mg "_law_by_base"=some (.ref abase_)
 aname_:Addr
 name_:FnP P w K mg base 13 aname_ ["_law_which","_law_things","_law_name","_law_cell"] (spBy K CS CW CB)
 hname_:mg "_law_by_name"=some (.ref aname_)
 asame:Addr
 same:FnP P w K mg base 1 asame ["_law_found","_law_due_here"] aH
 hsame:mg "_law_same"=some (.ref asame)
 atwins:Addr
 twins:FnP P w K mg base 12 atwins ["_law_thing","_law_twin","_law_names_here"] (Ww K CS CW CB)
 htwins:mg "_law_twins"=some (.ref atwins)
 goings:∃ g,FnP P w K mg base 1 g ["self"] (Pj CS K)∧Meth K CS "goings" g
 spots:∃ g,FnP P w K mg base 1 g ["self"] (Wx CW)∧Meth K CW "spots" g
 met:∃ g,FnP P w K mg base 4 g ["self","places"] (W1 CW)∧Meth K CW "met_by" g
 insS:InsK K CS CB
 insR:InsK K CW CB
section
variable {P:Program} {w:World} {K:PySem.W.Frag} {mg:Str->Option Value} {base:Heap} {CS CW CB:Addr}
def W2 (K:PySem.W.Frag):Sp:=fun vs H Q _=>∃ (a:Addr) (ns:List Int),vs=[.ref a]∧SqL K H a (ns.map V.int)∧ns.length≤63∧∀ H',Q (.bl true) H'
theorem Ee:Al ["_law_script","_law_names_here","_law_span_here","_law_part_here","_law_light","_law_places","_law_things","_law_twins_here","_law_k","_law_cell","_law_which","_law_name","_law_deed_here","_law_thing","_law_twin"] ["_law_script"] (defScope sLaw):=⟨rfl,rfl,rfl,by decide +kernel,rfl,by decide +kernel,by decide +kernel⟩
set_option maxHeartbeats 8000000 in
theorem jV {f gs gr gb:Addr} {fd:FuncData} (F:Fun K "law" "law" sLaw f fd) (B:Blt mg) (bzip:mg "zip"=none) (TS:STxt K CS) (TR:RTxt K CW) (TB:BTxt K CB) (G:LG P w K mg base CS CW CB)
  (MS:Mk K CS gs) (Gs0:FnP P w K mg base 6 gs ["self","places","span","part"] (Wy CS)) (hmS:mg "Shelf"=some (.ref CS)) (MR:Mk K CW gr) (Gr0:FnP P w K mg base 6 gr ["self","span","part"] (Wz CW)) (hmR:mg "Row"=some (.ref CW))
  (MB:Mk K CB gb) (Gb0:FnP P w K mg base 4 gb ["self","span","part"] (Q2 CB)) (hmB:mg "Book"=some (.ref CB)):FnOk P w K mg base CX0 23 f fd ["_law_script"] (W2 K):=by
 obtain ⟨fds,Gs,bs,_⟩:=Gs0
 obtain ⟨fdr,Gr,br,_⟩:=Gr0
 obtain ⟨fdb,Gb,bb,_⟩:=Gb0
 obtain ⟨ggo,Ggo,Mgo⟩:=G.goings
 obtain ⟨gsp,Gsp,Msp⟩:=G.spots
 obtain ⟨gme,Gme,Mme⟩:=G.met
 refine F.ok Ee (fun vs H Q E h=>?_) (fun cdv A outer s H vs Q E hr h=>?_)
 ·obtain ⟨a,ns,rfl,_⟩:=h
  rfl
 ·obtain ⟨a,scr,rfl,hS,hlen,kk⟩:=h
  have hu:=Dj hr
  have hu':_<cLine:=Nat.lt_of_succ_lt (Dj hr)
  refine ⟨_,(Ad (A3 (i:=1) Ee.nd rfl (Or.inr rfl) (Am G.lnames (hr.mono (by decide)) G.hlnames (Aa (Am G.cell (hr.mono (by decide)) G.hcell (Aa (pv 0) (Aa Ab Ac))) (Aa (Ai Bj.letter0 Ab (Ai Ba (Am G.cell (hr.mono (by decide)) G.hcell (Aa (pv 0) (Aa Ab Ac))) Ab)) Ac))))
   (Ad (A3 (i:=2) Ee.nd rfl (Or.inl rfl) (Am G.span (hr.mono (by decide)) G.hspan (Aa (Am G.cell (hr.mono (by decide)) G.hcell (Aa (pv 0) (Aa Ab Ac))) Ac)))
   (Ad (A3 (i:=3) Ee.nd rfl (Or.inl rfl) (Am G.part (hr.mono (by decide)) G.hpart (Aa (Ai A9 (Am G.cell (hr.mono (by decide)) G.hcell (Aa (pv 0) (Aa Ab Ac))) Ab) Ac)))
   (Ad (A3 (i:=4) Ee.nd rfl (Or.inl rfl) (Ai Ba.letter (Am G.cell (hr.mono (by decide)) G.hcell (Aa (pv 0) (Aa Ab Ac))) Ab))
   (Ad (A3 (i:=5) Ee.nd rfl (Or.inl rfl) (Ai Bj.letter0 Ab (Ai Ba (Am G.cell (hr.mono (by decide)) G.hcell (Aa (pv 0) (Aa Ab Ac))) Ab)))
   (Ad (A3 (i:=6) Ee.nd rfl (Or.inl rfl) (C5 (Aa (Fg MS Gs (hr.mono (by decide)) rfl hmS bs .nil Fx (Aa (pv 5) (Aa (pv 2) (Aa (pv 3) Ac)))) (Aa (Fg MR Gr (hr.mono (by decide)) rfl hmR br .nil Fx (Aa (pv 2) (Aa (pv 3) Ac))) (Aa (Fg MB Gb (hr.mono (by decide)) rfl hmB bb .nil Fx (Aa (pv 2) (Aa (pv 3) Ac))) Ac)))))
   (Ad (A3 (i:=7) Ee.nd rfl (Or.inl rfl) (C5 (Aa (Fg MS Gs (hr.mono (by decide)) rfl hmS bs .nil Fx (Aa (pv 5) (Aa (pv 2) (Aa (pv 3) Ac)))) (Aa (Fg MR Gr (hr.mono (by decide)) rfl hmR br .nil Fx (Aa (pv 2) (Aa (pv 3) Ac))) (Aa (Fg MB Gb (hr.mono (by decide)) rfl hmB bb .nil Fx (Aa (pv 2) (Aa (pv 3) Ac))) Ac)))))
   (Ad (Ko PassesOwn.never rfl (gB rfl B.enum (Aa (Dg fG (pv 0) (D5 Ab) D6) Ac)) (Ru rfl (Dw (By (i:=8) Ee.nd rfl (Or.inl rfl)) (Dw (By (i:=9) Ee.nd rfl (Or.inl rfl)) Mm)))
     (Ad (A3 (i:=10) Ee.nd rfl (Or.inl rfl) (Ai Ba.letter (Ai Ba (Ai Bj (Ai Bj (Ai Dq (pv 9) Ab) (Ai Dq (pv 8) Ab)) Ab) Ab) Ab))
     (Ad (A3 (i:=11) Ee.nd rfl (Or.inl rfl) (B7 Bq (pv 1) (Ai Ba.letter (pv 8) (Bi Dk rfl B.len PySem.boot_len (Aa (pv 1) Ac))) (fun _ _=>rfl)))
     (Ad (Mh <| Az (PW.pt (N0 (Ar Bo (Ai Ba (Ai A9 (pv 9) Ab) Ab) Ab (Au _)) (Ju (Bv (Bp (Am G.base_ (hr.mono (by decide)) G.hbase_ (Aa (pv 10) (Aa (pv 6) (Aa (pv 11) (Aa (pv 9) Ac)))))))))) (Af (As C3)) Av)
     (Ad (Mh <| Az (PW.pt (N0 (Ar Bo (Ai Ba (Ai A9 (pv 9) Ab) Ab) Ab (Au _)) (Ju (Bv (Bp (Am G.name_ (hr.mono (by decide)) G.hname_ (Aa (pv 10) (Aa (pv 6) (Aa (pv 11) (Aa (pv 9) Ac)))))))))) (Af (As C3)) Av)
     (Ad (A3 (i:=12) Ee.nd rfl (Or.inl rfl) (Am G.deed (hr.mono (by decide)) G.hdeed (Aa (pv 9) (Aa (pv 8) (Aa (pv 1) (Aa (pv 2) (Aa (pv 4) Ac)))))))
     (Af (Ko PassesOwn.never rfl (bV rfl bzip (Aa (pv 6) (Aa (pv 7) Ac))) (Ru rfl (Dw (By (i:=13) Ee.nd rfl (Or.inl rfl)) (Dw (By (i:=14) Ee.nd rfl (Or.inl rfl)) Mm)))
       (Af (Az (Bv (Bp (Am G.same (hr.mono (by decide)) G.hsame (Aa (Am G.do_ (hr.mono (by decide)) G.hdo_ (Aa (pv 13) (Aa (pv 12) Ac))) (Aa (Am G.do_ (hr.mono (by decide)) G.hdo_ (Aa (pv 14) (Aa (pv 12) Ac))) Ac))))) (Af (As C3)) Av))))))))))
   (Ad (Az (PW.pt (K8 (Bv (Bp (Bi Qm rfl B.isi PyProof.Rows.boot_isinstance (Aa (B7 Bq (pv 6) Ab (fun _ _=>rfl)) (Aa (Jx (v:=.ref CB) rfl hmB rfl) Ac))))) (Iy (Bv (Bp (Bi Qm rfl B.isi PyProof.Rows.boot_isinstance (Aa (B7 Bq (pv 6) Ab (fun _ _=>rfl)) (Aa (Jx (v:=.ref CB) rfl hmB rfl) Ac)))))))) (Af (As C3)) Av)
   (Ad (Az (PW.pt (K8 (Ar (jP hu) (Cp (B7 Bq (pv 6) Ab (fun _ _=>rfl)) TS.cl Mgo Ggo (hr.mono (by decide))) (Cp (B7 Bq (pv 7) Ab (fun _ _=>rfl)) TS.cl Mgo Ggo (hr.mono (by decide))) (Au _)) (Iy (Ar (cC hu') (Cp (B7 Bq (pv 6) Ab (fun _ _=>rfl)) TR.cl Msp Gsp (hr.mono (by decide))) (Cp (B7 Bq (pv 7) Ab (fun _ _=>rfl)) TR.cl Msp Gsp (hr.mono (by decide))) (Au _))))) (Af (As C3)) Av)
   (Ad (Az (Ar Ub (Aw (B7 Bq (pv 6) Ab (fun _ _=>rfl)) TR.cl Mme Gme (hr.mono (by decide)) (Aa Ab Ac)) (Aw (B7 Bq (pv 7) Ab (fun _ _=>rfl)) TR.cl Mme Gme (hr.mono (by decide)) (Aa Ab Ac)) (Au _)) (Af (As C3)) Av)
   (Af (As (Bi (O3 rfl) rfl B.all_ PyProof.Rows.boot_all (Aa
     (Jw (g:=gTup K 2 (dR (Xq 0) (dR (Xq 1) gNil))) (N':=["_law_thing","_law_twin","_law_names_here"]) (cap:=[none,none,some 1]) rfl rfl (bV rfl bzip (Aa (pv 6) (Aa (pv 7) Ac))) (fun _ _ _ _ _=>(Ru (n:=2) rfl (Dw (By (i:=0) (by decide +kernel:(["_law_thing","_law_twin","_law_names_here"]:List Str).Nodup) rfl (Or.inl rfl) (Or.inr rfl)) (Dw (By (i:=1) (by decide +kernel:(["_law_thing","_law_twin","_law_names_here"]:List Str).Nodup) rfl (Or.inl rfl) (Or.inr rfl)) Mm)))) (fun _ _ _ _ _=>Fe)
       (fun _ _ _ _ _=>Am G.twins (hr.mono (by decide)) G.htwins (Aa (pv 0) (Aa (pv 1) (Aa (pv 2) Ac))))) Ac))))))))))))))),?_⟩
  refine ⟨_,rfl,a,scr,0,rfl,hS,fun c0=>⟨_,rfl,a,scr,1,rfl,hS,fun c1=>⟨_,_,rfl,rfl,(by show (0:Int)<8; decide),_,_,rfl,rfl,fun mz hmz=>?_⟩⟩⟩
  obtain ⟨mn,rfl⟩:=Int.eq_ofNat_of_zero_le (show 0≤mz by omega)
  refine ⟨c0,mn,rfl,by omega,by omega,fun nl H1 ns hnl S1 hns hnlen hgn=>?_⟩
  have hS1:=S1.seq hS
  refine ⟨_,rfl,a,scr,2,rfl,hS1,fun c2=>⟨c2,rfl,fun sp sp1 sp2=>?_⟩⟩
  refine ⟨_,rfl,a,scr,3,rfl,hS1,fun c3=>⟨_,_,rfl,rfl,⟨by decide,by decide⟩,_,rfl,fun pt pt1 pt2=>?_⟩⟩
  refine ⟨_,rfl,a,scr,3,rfl,hS1,fun c4=>⟨_,_,rfl,rfl,(by show (0:Int)<3; decide),fun lt hlt=>?_⟩⟩
  refine ⟨_,rfl,a,scr,4,rfl,hS1,fun c5=>⟨_,_,rfl,rfl,(by show (0:Int)<6; decide),_,_,rfl,rfl,fun pl hpl=>?_⟩⟩
  have hne:ns≠[]:=fun z=>by rw [z] at hnlen; simp at hnlen; omega
  have hnl30:ns.length≤30:=by omega
  have lt0:0≤lt:=by omega
  have lt3:lt<3:=by omega
  have pl1:1≤pl:=by omega
  have pl2:pl≤1000:=by omega
  clear hlt c0 c1 c2 c3 c4 hmz
  refine ⟨_,rfl,_,rfl,_,rfl,?_⟩
  intro x1 dx1 nx ndx nex
  refine ⟨x1,dx1,pl,sp,pt,rfl,Ag,pl1,pl2,sp1,sp2,pt1,pt2,fun κs Ha is_ hp f K1 kp=>⟨rfl,?_⟩⟩
  have Sa:=E3 nx ndx kp
  have fs:=Hz nx ndx f
  subst hp
  clear kp f nx ndx nex
  have Os:=(Aq CS).ok κs is_
  refine ⟨_,rfl,_,rfl,?_⟩
  intro x2 dx2 nx ndx nex
  refine ⟨x2,dx2,sp,pt,rfl,Ag,sp1,sp2,pt1,pt2,fun κr Hb ir hp f K2 kp=>⟨rfl,?_⟩⟩
  have Sb:=E3 nx ndx kp
  have fr:=Hz nx ndx f
  subst hp
  clear kp f nx ndx nex
  have Or':=(rows CW).ok κr ir
  have asr:Cf κs κr:=apart_of K1 fr
  have K1:=K1.same Os Sb
  refine ⟨_,rfl,_,rfl,?_⟩
  intro x3 dx3 nx ndx nex
  refine ⟨x3,dx3,sp,pt,rfl,Ag,sp1,sp2,pt1,pt2,fun dc dl Hc e1 e2 ncl b1 b2 b3 kp=>⟨rfl,?_⟩⟩
  have Sc:=E3 nx ndx kp
  have K3:Ah (Fz CB x3 dc dl) (C2 sp pt) () Hc:=Qn b1 b2 b3
  have ib:(Bg CB).is (Fz CB x3 dc dl):=⟨x3,dc,dl,ncl,rfl⟩
  have fb:∀ b,(Fz CB x3 dc dl).own b->Hb b=none:=Hz nx ndx (by
   rintro b (rfl | rfl | rfl)
   ·exact .inl rfl
   ·exact .inr e1
   ·exact .inr e2)
  have hp:(Fz CB x3 dc dl).p=x3:=rfl
  generalize Fz CB x3 dc dl=κb at K3 ib fb hp
  subst hp
  clear kp b1 b2 b3 e1 e2 ncl nx ndx nex
  have Ob:=(Bg CB).ok κb ib
  have asb:Cf κs κb:=apart_of K1 fb
  have arb:Cf κr κb:=apart_of K2 fb
  have K1:=K1.same Os Sc
  have K2:=K2.same Or' Sc
  refine ⟨by show 3≤sizeLine; decide,fun tl htl=>?_⟩
  have Sd:=Same.upd (o:=HO.lst [.ref κs.p,.ref κr.p,.ref κb.p]) htl
  have htlv:(upd Hc tl (.lst [.ref κs.p,.ref κr.p,.ref κb.p])) tl=some (.lst [.ref κs.p,.ref κr.p,.ref κb.p]):=Ag
  have nt1:=K1.new htl
  have nt2:=K2.new htl
  have nt3:=K3.new htl
  have K1:=K1.same Os Sd
  have K2:=K2.same Or' Sd
  have K3:=K3.same Ob Sd
  generalize upd Hc tl (.lst [.ref κs.p,.ref κr.p,.ref κb.p])=Hd at Sd htlv K1 K2 K3 ⊢
  have S1d:=((Sa.trans Sb).trans Sc).trans Sd
  refine ⟨_,rfl,_,rfl,_,rfl,?_⟩
  intro x1 dx1 nx ndx nex
  refine ⟨x1,dx1,pl,sp,pt,rfl,Ag,pl1,pl2,sp1,sp2,pt1,pt2,fun μs He is' hp f J1 kp=>⟨rfl,?_⟩⟩
  have Se:=E3 nx ndx kp
  have gs':=Hz nx ndx f
  subst hp
  clear kp f nx ndx nex
  have Os':=(Aq CS).ok μs is'
  have ass:Cf κs μs:=apart_of K1 gs'
  have atr:Cf μs κr:=(apart_of K2 gs').symm
  have atb:Cf μs κb:=(apart_of K3 gs').symm
  have K1:=K1.same Os Se
  have K2:=K2.same Or' Se
  have K3:=K3.same Ob Se
  refine ⟨_,rfl,_,rfl,?_⟩
  intro x2 dx2 nx ndx nex
  refine ⟨x2,dx2,sp,pt,rfl,Ag,sp1,sp2,pt1,pt2,fun μr Hf ir' hp f J2 kp=>⟨rfl,?_⟩⟩
  have Sf:=E3 nx ndx kp
  have gr':=Hz nx ndx f
  subst hp
  clear kp f nx ndx nex
  have Ou:=(rows CW).ok μr ir'
  have asr':Cf κs μr:=apart_of K1 gr'
  have arr:Cf κr μr:=apart_of K2 gr'
  have aub:Cf μr κb:=(apart_of K3 gr').symm
  have atr':Cf μs μr:=apart_of J1 gr'
  have K1:=K1.same Os Sf
  have K2:=K2.same Or' Sf
  have K3:=K3.same Ob Sf
  have J1:=J1.same Os' Sf
  refine ⟨_,rfl,_,rfl,?_⟩
  intro x3 dx3 nx ndx nex
  refine ⟨x3,dx3,sp,pt,rfl,Ag,sp1,sp2,pt1,pt2,fun dc dl Hg e1 e2 ncl b1 b2 b3 kp=>⟨rfl,?_⟩⟩
  have Sg:=E3 nx ndx kp
  have J3:Ah (Fz CB x3 dc dl) (C2 sp pt) () Hg:=Qn b1 b2 b3
  have ib':(Bg CB).is (Fz CB x3 dc dl):=⟨x3,dc,dl,ncl,rfl⟩
  have gb':∀ b,(Fz CB x3 dc dl).own b->Hf b=none:=Hz nx ndx (by
   rintro b (rfl | rfl | rfl)
   ·exact .inl rfl
   ·exact .inr e1
   ·exact .inr e2)
  have hp:(Fz CB x3 dc dl).p=x3:=rfl
  generalize Fz CB x3 dc dl=μb at J3 ib' gb' hp
  subst hp
  clear kp b1 b2 b3 e1 e2 ncl nx ndx nex
  have Ov:=(Bg CB).ok μb ib'
  have ap:Obs.Ap ⟨κs,μs,κr,μr,κb,μb⟩:=⟨ass,asr,asr',asb,apart_of K1 gb',atr,atr',atb,apart_of J1 gb',arr,arb,apart_of K2 gb',aub,apart_of J2 gb',apart_of K3 gb'⟩
  have oi:Obs.Is CS CW CB ⟨κs,μs,κr,μr,κb,μb⟩:=⟨is_,is',ir,ir',ib,ib'⟩
  have at0:Obs.At ⟨κs,μs,κr,μr,κb,μb⟩ (C2 sp pt) (C2 sp pt) ⟨pl,[],[]⟩ ⟨pl,[],[]⟩ (C2 sp pt) (C2 sp pt) ⟨[],[]⟩ ⟨[],[]⟩ (C2 sp pt) (C2 sp pt) Hg:=
   ⟨K1.same Os Sg,J1.same Os' Sg,K2.same Or' Sg,J2.same Ou Sg,K3.same Ob Sg,J3⟩
  have S2g:=(Se.trans Sf).trans Sg
  have ownH1:∀ b,Obs.own ⟨κs,μs,κr,μr,κb,μb⟩ b->H1 b=none:=by
   rintro b (z | z | z | z | z | z)
   ·exact fs b z
   ·exact S1d.free (gs' b z)
   ·exact Sa.free (fr b z)
   ·exact (S1d.trans Se).free (gr' b z)
   ·exact (Sa.trans Sb).free (fb b z)
   ·exact ((S1d.trans Se).trans Sf).free (gb' b z)
  have nto:¬ Obs.own ⟨κs,μs,κr,μr,κb,μb⟩ tl:=by
   rintro (z | z | z | z | z | z)
   ·exact nt1 z
   ·have:=gs' tl z; rw [htlv] at this; cases this
   ·exact nt2 z
   ·have:=gr' tl z; rw [Se _ _ htlv] at this; cases this
   ·exact nt3 z
   ·have:=gb' tl z; rw [Sf _ _ (Se _ _ htlv)] at this; cases this
  refine ⟨by show 3≤sizeLine; decide,fun tw htw=>?_⟩
  have Sh:=Same.upd (o:=HO.lst [.ref μs.p,.ref μr.p,.ref μb.p]) htw
  have htwv:(upd Hg tw (.lst [.ref μs.p,.ref μr.p,.ref μb.p])) tw=some (.lst [.ref μs.p,.ref μr.p,.ref μb.p]):=Ag
  have nwo:=at0.new htw
  have at1:=at0.same oi Sh
  clear at0
  generalize upd Hg tw (.lst [.ref μs.p,.ref μr.p,.ref μb.p])=Hh at Sh htwv at1 ⊢
  have S1h:=(S1d.trans S2g).trans Sh
  have htlh:=Sh _ _ (S2g _ _ htlv)
  obtain ⟨cs,ecs,hcs⟩:=Zo (ns:=scr) 5
  refine ⟨_,rfl,_,rfl,a,_,rfl,S1h.seq hS1,fun sl fsl=>?_⟩
  have nso:=at1.new fsl
  have Si:Same Hh (upd Hh sl (.lst (cutV (scr.map V.int) (some 5) none))):=Same.upd fsl
  have hsl':(upd Hh sl (.lst (cutV (scr.map V.int) (some 5) none))) sl=some (.lst (cs.map V.int)):=by rw [Ag,ecs]
  have at2:=at1.same oi Si
  clear at1
  generalize upd Hh sl (.lst (cutV (scr.map V.int) (some 5) none))=Hi at Si hsl' at2 ⊢
  have nno:¬ Obs.own ⟨κs,μs,κr,μr,κb,μb⟩ nl:=fun z=>by rw [ownH1 nl z] at hns; cases hns
  generalize ho:(⟨κs,μs,κr,μr,κb,μb⟩:Obs)=o at ap oi at2 nto nwo nso nno
  have eo:o.s=κs∧o.s'=μs∧o.r=κr∧o.r'=μr∧o.b=κb∧o.b'=μb:=by rw [← ho]; exact ⟨rfl,rfl,rfl,rfl,rfl,rfl⟩
  obtain ⟨rfl,rfl,rfl,rfl,rfl,rfl⟩:=eo
  have Hc9:Same (cutO o Hi) Hi:=fun b u e=>(Ql e).2
  have nC:∀ b u,cutO o Hi b=some u->¬ o.own b:=fun b u e=>(Ql e).1
  have hnsc:cutO o Hi nl=some (.lst (ns.map V.str)):=by rw [Mv nno]; exact Si _ _ (S1h _ _ hns)
  have htlc:cutO o Hi tl=some (.lst [.ref o.s.p,.ref o.r.p,.ref o.b.p]):=by rw [Mv nto]; exact Si _ _ htlh
  have htwc:cutO o Hi tw=some (.lst [.ref o.s'.p,.ref o.r'.p,.ref o.b'.p]):=by rw [Mv nwo]; exact Si _ _ htwv
  have hslc:cutO o Hi sl=some (.lst (cs.map V.int)):=by rw [Mv nso]; exact hsl'
  generalize cutO o Hi=Hx at Hc9 nC hnsc htlc htwc hslc
  clear nno nto nwo nso hsl' Si htlh htwv htlv ownH1 S1h Sh S2g S1d Se Sf Sg Sa Sb Sc Sd fs fr fb gs' gr' gb' nt1 nt2 nt3 hns hS1 hS S1 fsl htw htl hnl K1 K2 K3 J1 J2 J3 ass asr asr' asb atr atr' atb arr arb aub ecs
  refine ⟨sl,rfl,⟨_,SqL.of (Hc9 _ _ hslc)⟩,?_⟩
  refine dU (J:=Ite K sl) cs.length (fun i σ H'=>∃ (S:BS) (t:ShS) (u:RoS) (z8 z9 z10 z11 z12 z13 z14:Option V),σ=[some (.ref a),some (.ref nl),some (.int sp),some (.int pt),some (.int lt),some (.int pl),some (.ref tl),some (.ref tw),z8,z9,z10,z11,z12,z13,z14] ∧
   Now ns sp pt i S∧ShOk i pl S t∧U3 i S u∧o.At S S t t S S u u S S H'∧Same Hx H') ?_ ?_ ?_ ?_ ?_
  ·exact ⟨C2 sp pt,⟨pl,[],[]⟩,⟨[],[]⟩,none,none,none,none,none,none,none,rfl,Now.C9 ns sp pt,⟨fun n hn=>(by cases hn),rfl,Nat.le_refl _⟩,⟨fun i j m z=>(by simp [Has] at z),fun i m z=>(by simp [Has] at z),rfl,Nat.le_refl _,fun _=>none,⟨List.nodup_nil,Nat.le_refl _,fun x hx=>(by cases hx),fun x hx=>(by cases hx),fun p=>rfl⟩⟩,at2,Hc9⟩
  ·rintro i σ H' hi ⟨S,t,u,z8,z9,z10,z11,z12,z13,z14,rfl,_,_,_,_,SS⟩
   exact ⟨_,.int cs[i],SqL.of (SS _ _ hslc),by simp [hi]⟩
  ·rintro σ H' ⟨S,t,u,z8,z9,z10,z11,z12,z13,z14,rfl,_,_,_,_,SS⟩
   exact ⟨_,SqL.of (SS _ _ hslc),by rw [List.length_map]; exact Nat.le_refl _⟩
  ·clear at2 Hc9
   rintro i σ Ha x Hb hi ⟨S,t,u,z8,z9,z10,z11,z12,z13,z14,rfl,now,sok,rok,at_,SS⟩ ⟨T1,y,hT,rfl,rfl,hy⟩
   have hy':y=.int cs[i]:=by
    have:=hy _ (SqL.of (SS _ _ hslc))
    rw [List.getElem?_map,List.getElem?_eq_getElem hi] at this
    exact (Option.some.inj this).symm
   subst hy'
   have ST:Same Ha (upd Ha T1 (.tup [.int i,.int cs[i]])):=Same.upd hT
   have hTt:(upd Ha T1 (.tup [.int i,.int cs[i]])) T1=some (.tup [.int i,.int cs[i]]):=Ag
   have at_:=at_.same oi ST
   have SS:=SS.trans ST
   generalize upd Ha T1 (.tup [.int i,.int cs[i]])=Hb at ST hTt at_ SS ⊢
   refine ⟨T1,_,rfl,SqT.of hTt,rfl,_,_,rfl,_,_,rfl,rfl,?_⟩
   clear hTt ST hy hT
   refine ⟨_,rfl,_,_,rfl,rfl,mulR (by decide) (by decide),_,rfl,_,_,rfl,rfl,mulR (by decide) (by decide),_,_,rfl,rfl,_,_,rfl,rfl,_,_,rfl,rfl,(by show (0:Int)<2147483629; decide),_,_,rfl,rfl,(by show (0:Int)<26; decide),fun wh hwh=>?_⟩
   have w0:0≤wh:=by omega
   have w25:wh≤25:=by omega
   clear hwh
   have hnpos:0<ns.length:=List.length_pos_iff.mpr hne
   refine ⟨_,rfl,_,rfl,_,rfl,nl,_,rfl,.inl (SqL.of (SS _ _ hnsc)),_,_,rfl,rfl,?_,fun zn hzn=>?_⟩
   ·rw [List.length_map]; omega
   rw [List.length_map] at hzn
   have a1:=Int.emod_nonneg (i:Int) (show (ns.length:Int)≠0 by omega)
   have a2:=Int.emod_lt_of_pos (i:Int) (show (0:Int)<(ns.length:Int) by omega)
   obtain ⟨an,rfl⟩:=Int.eq_ofNat_of_zero_le (show 0≤zn by omega)
   have han:an<ns.length:=by omega
   clear hzn a1 a2
   refine ⟨nl,_,_,_,rfl,rfl,SqL.of (SS _ _ hnsc),D8 (v:=.str ns[an]) (by rw [List.getElem?_map,List.getElem?_eq_getElem han]; rfl),?_⟩
   have gnm:=hgn _ (List.getElem_mem han)
   generalize ns[an]=nm at gnm ⊢
   have things:∀ {H':Hp},Same Hb H'->Ky K CS CW CB H' tl:=fun S'=>by
    have at':=at_.same oi S'
    exact ⟨o.s.p,o.r.p,o.b.p,SqL.of (S' _ _ (SS _ _ htlc)),M7 oi.s at'.s,M7 oi.r at'.r,M7 oi.b at'.b⟩
   refine ⟨fun σ' H'=>σ'=[some (.ref a),some (.ref nl),some (.int sp),some (.int pt),some (.int lt),some (.int pl),some (.ref tl),some (.ref tw),some (.int i),some (.int cs[i]),some (.int wh),some (.str nm),z12,z13,z14]∧Same Hb H',?_,?_⟩
   ·refine ⟨_,rfl,_,_,rfl,rfl,⟨by decide,by decide⟩,_,_,rfl,rfl,(by show (0:Int)<2; decide),rfl,_,rfl,ite2 (fun _=>?_) (fun _=>iteF ⟨rfl,Same.rfl⟩)⟩
    exact ⟨_,rfl,_,rfl,_,rfl,_,rfl,wh,cs[i],tl,nm,rfl,w0,w25,things Same.rfl,gnm,fun H' S'=>⟨_,rfl,iteF ⟨rfl,S'⟩⟩⟩
   rintro σ' H2 ⟨rfl,S2⟩
   refine ⟨fun σ' H'=>σ'=[some (.ref a),some (.ref nl),some (.int sp),some (.int pt),some (.int lt),some (.int pl),some (.ref tl),some (.ref tw),some (.int i),some (.int cs[i]),some (.int wh),some (.str nm),z12,z13,z14]∧Same Hb H',?_,?_⟩
   ·refine ⟨_,rfl,_,_,rfl,rfl,⟨by decide,by decide⟩,_,_,rfl,rfl,(by show (0:Int)<2; decide),rfl,_,rfl,ite2 (fun _=>?_) (fun _=>iteF ⟨rfl,S2⟩)⟩
    exact ⟨_,rfl,_,rfl,_,rfl,_,rfl,wh,cs[i],tl,nm,rfl,w0,w25,things S2,gnm,fun H' S'=>⟨_,rfl,iteF ⟨rfl,S2.trans S'⟩⟩⟩
   clear S2 H2
   rintro σ' H2 ⟨rfl,S2⟩
   have at_:=at_.same oi S2
   have SS:=SS.trans S2
   clear things S2
   refine ⟨_,rfl,_,rfl,_,rfl,_,rfl,_,rfl,cs[i],i,nl,ns,sp,lt,rfl,by omega,SqL.of (SS _ _ hnsc),hne,sp1,sp2,lt0,lt3,fun q H7 d hq S7 hqd gd=>?_⟩
   have at_:=at_.same oi S7
   have SS:=SS.trans S7
   clear S7 hq
   have fit:=now.fit (by omega) sp1 sp2 pt1 pt2 hnl30
   have fit1:=now.fit1 (by omega) sp1 sp2 pt1 pt2 hnl30
   have keepX:∀ {τ:Type} {κ:Kd τ} {H H':Hp},Fr κ H H'->(∀ b,κ.own b->o.own b)->Same Hx H->Same Hx H':=fun f g s b u e=>f b u (s b u e) fun z=>nC b u e (g b z)
   refine ⟨_,rfl,_,rfl,tl,tw,rfl,⟨_,SqL.of (SS _ _ htlc)⟩,⟨_,SqL.of (SS _ _ htwc)⟩,?_⟩
   refine dU (J:=Itz K tl tw) 3 (fun j σ H'=>∃ (Sa:BS) (ta:ShS) (Sb:BS) (ub:RoS) (Sc:BS) (z13 z14:Option V),σ=[some (.ref a),some (.ref nl),some (.int sp),some (.int pt),some (.int lt),some (.int pl),some (.ref tl),some (.ref tw),some (.int i),some (.int cs[i]),some (.int wh),some (.str nm),some (.ref q),z13,z14] ∧
    o.At Sa Sa ta ta Sb Sb ub ub Sc Sc H'∧Same Hx H'∧H' q=some (.tup (Dd.v d))∧((j=0∧Sa=S∧ta=t)∨(1≤j∧Sa=El S d∧ShOk (i+1) pl (El S d) ta))∧((j≤1∧Sb=S∧ub=u)∨(2≤j∧Sb=El S d∧U3 (i+1) (El S d) ub))∧((j≤2∧Sc=S)∨(3≤j∧Sc=El S d))) ?_ ?_ ?_ ?_ ?_
   ·exact ⟨S,t,S,u,S,z13,z14,rfl,at_,SS,hqd,.inl ⟨rfl,rfl,rfl⟩,.inl ⟨by decide,rfl,rfl⟩,.inl ⟨by decide,rfl⟩⟩
   ·rintro j σ H' hj ⟨Sa,ta,Sb,ub,Sc,z13,z14,rfl,_,S8,_⟩
    exact ⟨_,_,_,_,SqL.of (S8 _ _ htlc),List.getElem?_eq_getElem (by exact hj),SqL.of (S8 _ _ htwc),List.getElem?_eq_getElem (by exact hj)⟩
   ·rintro σ H' ⟨Sa,ta,Sb,ub,Sc,z13,z14,rfl,_,S8,_⟩
    exact ⟨_,_,SqL.of (S8 _ _ htlc),SqL.of (S8 _ _ htwc),.inl (Nat.le_refl 3)⟩
   ·rintro j σ H8 x H9 hj ⟨Sa,ta,Sb,ub,Sc,z13,z14,rfl,at8,S8,hq8,ca,cb,cc⟩ ⟨T,x1,y1,hT,rfl,rfl,hx,hy⟩
    have hx1:=hx _ (SqL.of (S8 _ _ htlc))
    have hy1:=hy _ (SqL.of (S8 _ _ htwc))
    have ST:Same H8 (upd H8 T (.tup [x1,y1])):=Same.upd hT
    have hTt:(upd H8 T (.tup [x1,y1])) T=some (.tup [x1,y1]):=Ag
    have at9:=at8.same oi ST
    have S9:=S8.trans ST
    have hq9:=ST _ _ hq8
    clear at8 S8 hq8 hx hy
    generalize upd H8 T (.tup [x1,y1])=H9 at ST hTt at9 S9 hq9 ⊢
    refine ⟨T,_,rfl,SqT.of hTt,rfl,_,_,rfl,_,_,rfl,rfl,?_⟩
    have hj3:j=0∨j=1∨j=2:=by omega
    rcases hj3 with rfl | rfl | rfl
    ·have e1:x1=.ref o.s.p:=(Option.some.inj hx1).symm
     have e2:y1=.ref o.s'.p:=(Option.some.inj hy1).symm
     subst e1 e2
     rcases ca with ⟨_,rfl,rfl⟩ | ⟨z,_⟩
     case inr=>omega
     have nt:=dA oi.s at9.s
     refine ⟨_,rfl,_,rfl,.inl ⟨o.s,_,_,q,d,ns,oi.s,rfl,hq9,at9.s,fit,fit1,gd,hgn,sok.sin,by rw [sok.tp]; exact pl1,by have:=sok.mn; omega,fun t1 v1 HA dt1 B1 F1=>?_⟩⟩
     have atA:=at9.setS oi ap F1 B1
     have SA:=keepX F1 (fun b z=>.inl z) S9
     have hqA:=F1 _ _ hq9 (at9.s.noTup hq9)
     refine ⟨_,rfl,_,rfl,.inl ⟨o.s',_,_,q,d,ns,oi.s',rfl,hqA,atA.s',fit,fit1,gd,hgn,sok.sin,by rw [sok.tp]; exact pl1,by have:=sok.mn; omega,fun t2 v2 HB dt2 B2 F2=>?_⟩⟩
     obtain ⟨rfl,rfl⟩:=Zl fit fit1 sok.sin nt dt1 dt2
     have atB:=atA.setS' oi ap F2 B2
     have SB:=keepX F2 (fun b z=>.inr (.inl z)) SA
     have hqB:=F2 _ _ hqA (atA.s'.noTup hqA)
     refine ⟨_,rfl,fX dt1,⟨_,rfl,iteF ?_⟩⟩
     exact ⟨_,_,_,_,_,_,_,rfl,atB,SB,hqB,.inr ⟨by decide,rfl,sok.step fit.nd nt dt1⟩,cb.elim (fun z=>.inl ⟨by decide,z.2⟩) (fun z=>absurd z.1 (by decide)),cc.elim (fun z=>.inl ⟨by decide,z.2⟩) (fun z=>absurd z.1 (by decide))⟩
    ·have e1:x1=.ref o.r.p:=(Option.some.inj hx1).symm
     have e2:y1=.ref o.r'.p:=(Option.some.inj hy1).symm
     subst e1 e2
     rcases cb with ⟨_,rfl,rfl⟩ | ⟨z,_⟩
     case inr=>omega
     obtain ⟨ss,rn⟩:=rok.mt
     have fm:=rn.few
     have fl:=rok.ln
     refine ⟨_,rfl,_,rfl,.inr (.inl ⟨o.r,_,_,q,d,ns,oi.r,rfl,hq9,at9.r,fit,fit1,gd,hgn,rok.nd,rok.lin,by omega,by omega,fun t1 s1 v1 HA dt1 B1 F1=>?_⟩)⟩
     have atA:=at9.setR oi ap F1 B1
     have SA:=keepX F1 (fun b z=>.inr (.inr (.inl z))) S9
     have hqA:=F1 _ _ hq9 (at9.r.noTup hq9)
     refine ⟨_,rfl,_,rfl,.inr (.inl ⟨o.r',_,_,q,d,ns,oi.r',rfl,hqA,atA.r',fit,fit1,gd,hgn,rok.nd,rok.lin,by omega,by omega,fun t2 s2 v2 HB dt2 B2 F2=>?_⟩)⟩
     obtain ⟨rfl,rfl⟩:=X8 rok.tr dt1 dt2
     have atB:=atA.setR' oi ap F2 B2
     have SB:=keepX F2 (fun b z=>.inr (.inr (.inr (.inl z)))) SA
     have hqB:=F2 _ _ hqA (atA.r'.noTup hqA)
     refine ⟨_,rfl,fY dt1,⟨_,rfl,iteF ?_⟩⟩
     exact ⟨_,_,_,_,_,_,_,rfl,atB,SB,hqB,ca.elim (fun z=>absurd z.1 (by decide)) (fun z=>.inr ⟨by decide,z.2⟩),.inr ⟨by decide,rfl,rok.step now dt1⟩,cc.elim (fun z=>.inl ⟨by decide,z.2⟩) (fun z=>absurd z.1 (by decide))⟩
    ·have e1:x1=.ref o.b.p:=(Option.some.inj hx1).symm
     have e2:y1=.ref o.b'.p:=(Option.some.inj hy1).symm
     subst e1 e2
     rcases cc with ⟨_,rfl⟩ | ⟨z,_⟩
     case inr=>omega
     refine ⟨_,rfl,_,rfl,.inr (.inr ⟨o.b,_,(),q,d,ns,oi.b,rfl,hq9,at9.b,fit,fit1,gd,hgn,fun t1 HA B1 F1=>?_⟩)⟩
     have atA:=at9.setB oi ap F1 B1
     have SA:=keepX F1 (fun b z=>.inr (.inr (.inr (.inr (.inl z))))) S9
     have hqA:=F1 _ _ hq9 (at9.b.noTup hq9)
     refine ⟨_,rfl,_,rfl,.inr (.inr ⟨o.b',_,(),q,d,ns,oi.b',rfl,hqA,atA.b',fit,fit1,gd,hgn,fun t2 HB B2 F2=>?_⟩)⟩
     have atB:=atA.setB' oi ap F2 B2
     have SB:=keepX F2 (fun b z=>.inr (.inr (.inr (.inr (.inr z))))) SA
     have hqB:=F2 _ _ hqA (atA.b'.noTup hqA)
     refine ⟨_,rfl,fZ,⟨_,rfl,iteF ?_⟩⟩
     exact ⟨_,_,_,_,_,_,_,rfl,atB,SB,hqB,ca.elim (fun z=>absurd z.1 (by decide)) (fun z=>.inr ⟨by decide,z.2⟩),cb.elim (fun z=>absurd z.1 (by decide)) (fun z=>.inr ⟨by decide,z.2⟩),.inr ⟨by decide,rfl⟩⟩
   ·rintro σ H' ⟨Sa,ta,Sb,ub,Sc,z13,z14,rfl,at8,S8,_,ca,cb,cc⟩
    rcases ca with z | ⟨_,rfl,sok'⟩
    ·exact absurd z.1 (by decide)
    rcases cb with z | ⟨_,rfl,rok'⟩
    ·exact absurd z.1 (by decide)
    rcases cc with z | ⟨_,rfl⟩
    ·exact absurd z.1 (by decide)
    exact ⟨_,_,_,_,_,_,_,_,_,_,rfl,now.step gd,sok',rok',at8,S8⟩
  ·clear at2 Hc9
   rintro σ Ha ⟨S,t,u,z8,z9,z10,z11,z12,z13,z14,rfl,now,sok,rok,at_,SS⟩
   have fit:=now.fit (by omega) sp1 sp2 pt1 pt2 hnl30
   have att:∀ (j:Nat) (v:V),j<3->[V.ref o.s.p,.ref o.r.p,.ref o.b.p][j]?=some v->atI [V.ref o.s.p,.ref o.r.p,.ref o.b.p] (j:Int)=some v:=fun j v hj e=>D8 e
   have atw:∀ (j:Nat) (v:V),j<3->[V.ref o.s'.p,.ref o.r'.p,.ref o.b'.p][j]?=some v->atI [V.ref o.s'.p,.ref o.r'.p,.ref o.b'.p] (j:Int)=some v:=fun j v hj e=>D8 e
   have Os:=(Aq CS).ok o.s oi.s
   have Os':=(Aq CS).ok o.s' oi.s'
   have Or':=(rows CW).ok o.r oi.r
   have Ou:=(rows CW).ok o.r' oi.r'
   obtain ⟨dx,hd⟩:=getB (Aq CS) oi.s at_.s
   obtain ⟨dy,hd'⟩:=getB (rows CW) oi.r at_.r
   refine ⟨_,rfl,tl,_,0,_,rfl,rfl,SqL.of (SS _ _ htlc),att 0 _ (by decide) rfl,_,CB,_,true,rfl,TyOf.ins hd TS.cl G.insS.ha G.insS.hn G.insS.htk G.insS.hm,G.insS.kit,_,rfl,iteF ?_⟩
   refine ⟨_,rfl,tl,_,1,_,rfl,rfl,SqL.of (SS _ _ htlc),att 1 _ (by decide) rfl,_,CB,_,true,rfl,TyOf.ins hd' TR.cl G.insR.ha G.insR.hn G.insR.htk G.insR.hm,G.insR.kit,_,rfl,iteF ?_⟩
   refine ⟨_,rfl,tl,_,0,_,rfl,rfl,SqL.of (SS _ _ htlc),att 0 _ (by decide) rfl,o.s.p,dx,_,rfl,hd,at_.s.fno Os (by decide +kernel) (by decide +kernel),o.s,S,t,oi.s,rfl,at_.s,fun l1 ts1 hl1 hlen1 hts1=>?_⟩
   have S1:=Same.upd (o:=HO.lst (ts1.map V.ref)) hl1
   have hl1v:(upd Ha l1 (.lst (ts1.map V.ref))) l1=some (.lst (ts1.map V.ref)):=Ag
   have at1:=at_.same oi S1
   have SS1:=SS.trans S1
   obtain ⟨xs1,ex1,ey1,hz1⟩:=Mx hlen1 hts1
   clear hd hd' hts1
   generalize upd Ha l1 (.lst (ts1.map V.ref))=H1' at S1 hl1v at1 SS1 ⊢
   obtain ⟨dy,hd'⟩:=getB (Aq CS) oi.s' at1.s'
   refine ⟨_,rfl,tw,_,0,_,rfl,rfl,SqL.of (SS1 _ _ htwc),atw 0 _ (by decide) rfl,o.s'.p,dy,_,rfl,hd',at1.s'.fno Os' (by decide +kernel) (by decide +kernel),o.s',S,t,oi.s',rfl,at1.s',fun l2 ts2 hl2 hlen2 hts2=>?_⟩
   have S2:=Same.upd (o:=HO.lst (ts2.map V.ref)) hl2
   have hl2v:(upd H1' l2 (.lst (ts2.map V.ref))) l2=some (.lst (ts2.map V.ref)):=Ag
   have at2:=at1.same oi S2
   have SS2:=SS1.trans S2
   obtain ⟨xs2,ex2,ey2,hz2⟩:=Mx hlen2 hts2
   clear hd' hts2
   generalize upd H1' l2 (.lst (ts2.map V.ref))=H2' at S2 hl2v at2 SS2 ⊢
   refine ⟨l1,l2,xs1,xs2,rfl,rfl,SqL.of (by rw [ex1]; exact S2 _ _ hl1v),SqL.of (by rw [ex2]; exact hl2v),fun z hz=>⟨SqT.of (S2 _ _ (S1 _ _ (hz1 z hz).1)),(hz1 z hz).2⟩,fun z hz=>SqT.of (S2 _ _ (hz2 z hz).1),ey1.trans ey2.symm,_,rfl,iteF ?_⟩
   obtain ⟨dx,hd⟩:=getB (rows CW) oi.r at2.r
   refine ⟨_,rfl,tl,_,1,_,rfl,rfl,SqL.of (SS2 _ _ htlc),att 1 _ (by decide) rfl,o.r.p,dx,_,rfl,hd,at2.r.fno Or' (by decide +kernel) (by decide +kernel),o.r,S,u,oi.r,rfl,at2.r,fun l3 hl3=>?_⟩
   have S3:=Same.upd (o:=HO.lst (Bc u.line)) hl3
   have hl3v:(upd H2' l3 (.lst (Bc u.line))) l3=some (.lst (Bc u.line)):=Ag
   have at3:=at2.same oi S3
   have SS3:=SS2.trans S3
   clear hd
   generalize upd H2' l3 (.lst (Bc u.line))=H3' at S3 hl3v at3 SS3 ⊢
   obtain ⟨dx,hd⟩:=getB (rows CW) oi.r' at3.r'
   refine ⟨_,rfl,tw,_,1,_,rfl,rfl,SqL.of (SS3 _ _ htwc),atw 1 _ (by decide) rfl,o.r'.p,dx,_,rfl,hd,at3.r'.fno Ou (by decide +kernel) (by decide +kernel),o.r',S,u,oi.r',rfl,at3.r',fun l4 hl4=>?_⟩
   have S4:=Same.upd (o:=HO.lst (Bc u.line)) hl4
   have hl4v:(upd H3' l4 (.lst (Bc u.line))) l4=some (.lst (Bc u.line)):=Ag
   have at4:=at3.same oi S4
   have SS4:=SS3.trans S4
   clear hd
   generalize upd H3' l4 (.lst (Bc u.line))=H4' at S4 hl4v at4 SS4 ⊢
   refine ⟨l3,l4,_,_,rfl,rfl,SqL.of (S4 _ _ hl3v),SqL.of hl4v,Oh _,Oh _,?_⟩
   rw [if_pos rfl,Qh]
   refine ⟨_,rfl,iteF ?_⟩
   obtain ⟨ss,rn⟩:=rok.mt
   have mok:=rn.metOk (by omega)
   obtain ⟨dx,hd⟩:=getB (rows CW) oi.r at4.r
   refine ⟨_,rfl,tl,_,1,_,rfl,rfl,SqL.of (SS4 _ _ htlc),att 1 _ (by decide) rfl,o.r.p,dx,_,rfl,hd,at4.r.fno Or' (by decide +kernel) (by decide +kernel),o.r,S,u,3,oi.r,rfl,at4.r,by decide,by decide,mok,fun H5' S5=>?_⟩
   have at5:=at4.same oi S5
   have SS5:=SS4.trans S5
   clear hd
   obtain ⟨dx,hd⟩:=getB (rows CW) oi.r' at5.r'
   refine ⟨_,rfl,tw,_,1,_,rfl,rfl,SqL.of (SS5 _ _ htwc),atw 1 _ (by decide) rfl,o.r'.p,dx,_,rfl,hd,at5.r'.fno Ou (by decide +kernel) (by decide +kernel),o.r',S,u,3,oi.r',rfl,at5.r',by decide,by decide,mok,fun H6' S6=>⟨rfl,?_⟩⟩
   have at6:=at5.same oi S6
   have SS6:=SS5.trans S6
   rw [decide_eq_true rfl]
   refine ⟨_,rfl,iteF ?_⟩
   clear at_ at1 at2 at3 at4 at5 SS SS1 SS2 SS3 SS4 SS5 S1 S2 S3 S4 S5 S6 hd
   refine ⟨_,rfl,_,rfl,tl,tw,rfl,⟨_,SqL.of (SS6 _ _ htlc)⟩,⟨_,SqL.of (SS6 _ _ htwc)⟩,?_⟩
   refine J4 3 (fun i ys σ' H'=>ys=List.replicate i (V.bl true)∧Same H6' H'∧∃ v1 v2,σ'=[v1,v2,some (.ref nl)]) ⟨rfl,Same.rfl,none,none,rfl⟩ (by decide) ?_ ?_ ?_ ?_
   ·rintro i ys σ' H' hi ⟨_,S7,_⟩
    exact ⟨_,_,_,_,SqL.of (S7 _ _ (SS6 _ _ htlc)),List.getElem?_eq_getElem (by exact hi),SqL.of (S7 _ _ (SS6 _ _ htwc)),List.getElem?_eq_getElem (by exact hi)⟩
   ·rintro ys σ' H' ⟨_,S7,_⟩
    exact ⟨_,_,SqL.of (S7 _ _ (SS6 _ _ htlc)),SqL.of (S7 _ _ (SS6 _ _ htwc)),.inl (Nat.le_refl 3)⟩
   ·rintro i ys σ' H7 x H8 hi hl' ⟨rfl,S7,v1,v2,rfl⟩ ⟨T,x1,y1,hT,rfl,rfl,hx,hy⟩
    have hx1:=hx _ (SqL.of (S7 _ _ (SS6 _ _ htlc)))
    have hy1:=hy _ (SqL.of (S7 _ _ (SS6 _ _ htwc)))
    have ST:Same H7 (upd H7 T (.tup [x1,y1])):=Same.upd hT
    have hTt:(upd H7 T (.tup [x1,y1])) T=some (.tup [x1,y1]):=Ag
    have S8:=S7.trans ST
    clear hx hy
    generalize upd H7 T (.tup [x1,y1])=H8 at ST hTt S8 ⊢
    have at8:=at6.same oi S8
    refine ⟨T,_,rfl,SqT.of hTt,rfl,_,_,rfl,_,_,rfl,rfl,?_⟩
    have hnl8:SqL K H8 nl (ns.map V.str):=SqL.of (S8 _ _ (SS6 _ _ hnsc))
    have fin:∀ H',Same H8 H'->(List.replicate i (V.bl true)).length<sizeLine∧∃ m',m'<3 - i∧LcW 3 (fun i ys σ' H'=>ys=List.replicate i (V.bl true)∧Same H6' H'∧∃ v1 v2,σ'=[v1,v2,some (.ref nl)]) (i+1) m' (List.replicate i (V.bl true)++[V.bl true]) [some x1,some y1,some (.ref nl)] H':=fun H' S'=>
     J5 hi hl' (by decide) ⟨by rw [List.replicate_succ'],S8.trans S',_,_,rfl⟩
    have hj3:i=0∨i=1∨i=2:=by omega
    rcases hj3 with rfl | rfl | rfl
    ·have e1:x1=.ref o.s.p:=(Option.some.inj hx1).symm
     have e2:y1=.ref o.s'.p:=(Option.some.inj hy1).symm
     subst e1 e2
     exact ⟨_,rfl,_,rfl,_,rfl,.inl ⟨o.s,o.s',S,t,nl,ns,oi.s,oi.s',rfl,at8.s,at8.s',Nc sok.sin now.co (dA oi.s at8.s) now.nm hnl30,hnl8,hgn,fin⟩⟩
    ·have e1:x1=.ref o.r.p:=(Option.some.inj hx1).symm
     have e2:y1=.ref o.r'.p:=(Option.some.inj hy1).symm
     subst e1 e2
     have sr:Ch S (Cl u.line):=by
      have:=Pd (p:=u.line.length) rok.lin now.co rok.nd now.nm hnl30
      rw [List.take_length] at this
      exact this
     exact ⟨_,rfl,_,rfl,_,rfl,.inr (.inl ⟨o.r,o.r',S,u,nl,ns,oi.r,oi.r',rfl,at8.r,at8.r',sr,hnl8,hgn,fin⟩)⟩
    ·have e1:x1=.ref o.b.p:=(Option.some.inj hx1).symm
     have e2:y1=.ref o.b'.p:=(Option.some.inj hy1).symm
     subst e1 e2
     exact ⟨_,rfl,_,rfl,_,rfl,.inr (.inr ⟨o.b,o.b',S,(),nl,ns,oi.b,oi.b',rfl,at8.b,at8.b',fit.sortable,hnl8,hgn,fin⟩)⟩
   ·rintro ys σ' H7 ⟨rfl,S7,v1,v2,rfl⟩ al hal
    refine ⟨al,List.replicate 3 true,rfl,SqL.of (by rw [Ag,List.map_replicate]),?_⟩
    exact kk _
end
end Lk

namespace Lk
open PySem L2
theorem Eh {K:PySem.W.Frag} {C D:Addr} {b:Bool} (i:(PySem.W.clsIn K D).isSome=true) (t:PySem.W.typeIn K (.ref D)=some (.type "type")) (s:PySem.W.subIn K (.ref C) (.ref D)=some b) (self:PySem.W.subIn K (.ref C) (.ref C)=some true):PySem.W.kitOne K (.ref C) (.ref D)=some b:=by
 unfold PySem.W.kitOne
 by_cases e:C=D
 ·subst e
  rw [self] at s
  rw [if_pos (by simp)]
  exact s
 ·rw [if_neg (by simpa using e)]
  show (if ((PySem.W.clsIn K D).isSome&&PySem.W.typeIn K (.ref D)==some (.type "type"))=true then PySem.W.subIn K (.ref C) (.ref D) else none)=some b
  rw [i,t,s]
  rfl
theorem D1 {K:PySem.W.Frag} {C D:Addr} {b:Bool} (h:PySem.W.subIn K (.ref D) (.type "BaseException")=some true) (i:(PySem.W.clsIn K D).isSome=true) (t:PySem.W.typeIn K (.ref D)=some (.type "type")) (s:PySem.W.subIn K (.ref C) (.ref D)=some b):PySem.W.exmOne K (.ref C) (.ref D)=some b:=by
 unfold PySem.W.exmOne
 rw [if_pos (by rw [h]; rfl)]
 show (if ((PySem.W.clsIn K D).isSome&&PySem.W.typeIn K (.ref D)==some (.type "type"))=true then PySem.W.subIn K (.ref C) (.ref D) else none)=some b
 rw [i,t,s]
 rfl
theorem V9 {K:PySem.W.Frag} {C:Addr} (s:PySem.W.subIn K (.ref C) (.type "ValueError")=some true):PySem.W.kitOne K (.ref C) (.type "ValueError")=some true:=by
 unfold PySem.W.kitOne
 rw [if_neg (by simp)]
 show (if PySem.W.kitMeta "ValueError"=true then PySem.W.subIn K (.ref C) (.type "ValueError") else none)=some true
 rw [if_pos (by first | rfl | decide +kernel)]
 exact s
end Lk

namespace Lk
open PySem L2
open PySem.W (nsIn findIn isFn keepIn specialIn readsIn findCls CFound takesIn plainGet hasDictIn plainOver makesIn codeIn fnOf Frag OpenLaw mg_of mg_none_of clsIn typeIn subIn mroIn excIn)
theorem Lm {K:Frag} {f:Addr} {fd:FuncData} {t0:Tok} (F:FunD K "ask" "Shelf.ask" Jp f fd [.int 1 t0]):B8 K fd ["self","name","weight"] []:=
 F.binds fun _ _ _ _ _ _ _ us hl=>match us,hl with | [_,_,_],_=>⟨_,rfl,rfl⟩
theorem Ll {K:Frag} {f:Addr} {fd:FuncData} {t0:Tok} (F:FunD K "ask" "Shelf.ask" Jp f fd [.int 1 t0]):B8 K fd ["self","name","weight"] [.int 1 t0]:=
 F.binds fun _ _ _ _ _ _ _ us hl=>by
  have h2:us.length=2:=by
   rw [List.length_append] at hl
   exact Nat.succ.inj hl
  match us,h2 with
  | [_,_],_=>exact ⟨_,rfl,rfl⟩
theorem Lo {K:Frag} {f:Addr} {fd:FuncData} {t0:Tok} (F:FunD K "ask" "Row.ask" Jq f fd [.int 1 t0]):B8 K fd ["self","name","weight"] []:=
 F.binds fun _ _ _ _ _ _ _ us hl=>match us,hl with | [_,_,_],_=>⟨_,rfl,rfl⟩
theorem Ln {K:Frag} {f:Addr} {fd:FuncData} {t0:Tok} (F:FunD K "ask" "Row.ask" Jq f fd [.int 1 t0]):B8 K fd ["self","name","weight"] [.int 1 t0]:=
 F.binds fun _ _ _ _ _ _ _ us hl=>by
  have h2:us.length=2:=by
   rw [List.length_append] at hl
   exact Nat.succ.inj hl
  match us,h2 with
  | [_,_],_=>exact ⟨_,rfl,rfl⟩
theorem Lq {K:Frag} {f:Addr} {fd:FuncData} {t0:Tok} (F:FunD K "ask" "Book.ask" sAsk f fd [.int 1 t0]):B8 K fd ["self","name","weight"] []:=
 F.binds fun _ _ _ _ _ _ _ us hl=>match us,hl with | [_,_,_],_=>⟨_,rfl,rfl⟩
theorem Lp {K:Frag} {f:Addr} {fd:FuncData} {t0:Tok} (F:FunD K "ask" "Book.ask" sAsk f fd [.int 1 t0]):B8 K fd ["self","name","weight"] [.int 1 t0]:=
 F.binds fun _ _ _ _ _ _ _ us hl=>by
  have h2:us.length=2:=by
   rw [List.length_append] at hl
   exact Nat.succ.inj hl
  match us,h2 with
  | [_,_],_=>exact ⟨_,rfl,rfl⟩
theorem kL {l:OpenLaw} {w:World} {K:Frag} {h:Heap} {mg:Str->Option Value} {fa:Addr} {fd:FuncData} {ocAS kVAS dcAS pmAS cdAS ctAS otAS:Value} {odAS anAS toAS:Option Addr} {slAS tsAS:Array (Option Value)} {dsAS:Array Value} {nAS:Nat} {t0S:Tok} {ocAR kVAR dcAR pmAR cdAR ctAR otAR:Value} {odAR anAR toAR:Option Addr} {slAR tsAR:Array (Option Value)} {dsAR:Array Value} {nAR:Nat} {t0R:Tok} {ocAK kVAK dcAK pmAK cdAK ctAK otAK:Value} {odAK anAK toAK:Option Addr} {slAK tsAK:Array (Option Value)} {dsAK:Array Value} {nAK:Nat} {t0K:Tok} {C0 fL m_binit XE XN XM XR f_whole f_name f_ckName f_ckWeight f_ckSteps f_ckPlaces f_ckMany f_ckRule f_ageings f_aged f_cell f_sign f_lnames Su Sv f_deed f_do f_badName f_badNumber f_thing f_own f_new f_due f_lcall f_byBase f_byName f_same f_twins m_rest m_strength m_beginAsk m_grow m_beginDrop m_passTime m_ageCounts m_timeNow m_deedsDone m_countOf m_lastOf m_inOrder m_sinit m_sdrop m_takeIn m_takeOff m_sfade m_snames m_shas m_sgoings m_rinit m_rdrop m_spotOf m_leave m_rfade m_bringIn m_metBy m_enough m_rnames m_spots m_namesAt m_namesOn m_kinit m_knames m_kdrop m_kfade CS fAS TAS CR fAR TAR CK fAK TAK:Addr} (X:K.In h) (G:h.Ns mainGlobals mg) (hfa:mg "law"=some (.ref fa))
(aB:nsIn K mainGlobals "Book"=some (some (.ref C0)))
(a_whole:nsIn K mainGlobals "is_whole_within"=some (some (.ref f_whole)))
(F_whole:FunB K "is_whole_within" "is_whole_within" Jr f_whole ["value","least","most"])
(a_name:nsIn K mainGlobals "is_name"=some (some (.ref f_name)))
(F_name:FunB K "is_name" "is_name" L5 f_name ["value"])
(a_ckName:nsIn K mainGlobals "check_name"=some (some (.ref f_ckName)))
(F_ckName:FunB K "check_name" "check_name" L7 f_ckName ["name"])
(a_ckWeight:nsIn K mainGlobals "check_weight"=some (some (.ref f_ckWeight)))
(F_ckWeight:FunB K "check_weight" "check_weight" Hs f_ckWeight ["weight"])
(a_ckSteps:nsIn K mainGlobals "check_steps"=some (some (.ref f_ckSteps)))
(F_ckSteps:FunB K "check_steps" "check_steps" Jt f_ckSteps ["steps"])
(a_ckPlaces:nsIn K mainGlobals "check_places"=some (some (.ref f_ckPlaces)))
(F_ckPlaces:FunB K "check_places" "check_places" Ht f_ckPlaces ["places"])
(a_ckMany:nsIn K mainGlobals "check_many"=some (some (.ref f_ckMany)))
(F_ckMany:FunB K "check_many" "check_many" L8 f_ckMany ["many"])
(a_ckRule:nsIn K mainGlobals "check_rule"=some (some (.ref f_ckRule)))
(F_ckRule:FunB K "check_rule" "check_rule" L6 f_ckRule ["span","part"])
(a_ageings:nsIn K mainGlobals "ageings"=some (some (.ref f_ageings)))
(F_ageings:FunB K "ageings" "ageings" Ny f_ageings ["span","since","upto"])
(a_aged:nsIn K mainGlobals "aged"=some (some (.ref f_aged)))
(F_aged:FunB K "aged" "aged" bN f_aged ["count","part","times"])
(a_cell:nsIn K mainGlobals "_law_cell_at"=some (some (.ref f_cell)))
(F_cell:FunB K "_law_cell_at" "_law_cell_at" Ro f_cell ["_law_script","_law_k"])
(a_sign:nsIn K mainGlobals "_law_sign"=some (some (.ref f_sign)))
(F_sign:FunB K "_law_sign" "_law_sign" bG f_sign ["_law_number"])
(a_lnames:nsIn K mainGlobals "_law_names"=some (some (.ref f_lnames)))
(F_lnames:FunB K "_law_names" "_law_names" Rm f_lnames ["_law_cell","_law_many"])
(a_span:nsIn K mainGlobals "_law_span"=some (some (.ref Su)))
(F_span:FunB K "_law_span" "_law_span" bF Su ["_law_cell"])
(a_part:nsIn K mainGlobals "_law_part"=some (some (.ref Sv)))
(F_part:FunB K "_law_part" "_law_part" bJ Sv ["_law_cell"])
(a_deed:nsIn K mainGlobals "_law_deed"=some (some (.ref f_deed)))
(F_deed:FunB K "_law_deed" "_law_deed" bM f_deed ["_law_cell","_law_k","_law_names_here","_law_span_here","_law_light"])
(a_do:nsIn K mainGlobals "_law_do"=some (some (.ref f_do)))
(F_do:FunB K "_law_do" "_law_do" sDo f_do ["_law_thing","_law_deed_here"])
(a_badName:nsIn K mainGlobals "_law_bad_name"=some (some (.ref f_badName)))
(F_badName:FunB K "_law_bad_name" "_law_bad_name" Nx f_badName ["_law_cell","_law_good"])
(a_badNumber:nsIn K mainGlobals "_law_bad_number"=some (some (.ref f_badNumber)))
(F_badNumber:FunB K "_law_bad_number" "_law_bad_number" Iw f_badNumber ["_law_cell","_law_least","_law_most"])
(a_thing:nsIn K mainGlobals "_law_thing_call"=some (some (.ref f_thing)))
(F_thing:FunB K "_law_thing_call" "_law_thing_call" Iu f_thing ["_law_which","_law_thing","_law_name","_law_cell"])
(a_own:nsIn K mainGlobals "_law_own_call"=some (some (.ref f_own)))
(F_own:FunB K "_law_own_call" "_law_own_call" Nq f_own ["_law_which","_law_shelf","_law_row","_law_name","_law_cell"])
(a_new:nsIn K mainGlobals "_law_new_call"=some (some (.ref f_new)))
(F_new:FunB K "_law_new_call" "_law_new_call" Nr f_new ["_law_which","_law_cell"])
(a_due:nsIn K mainGlobals "_law_due"=some (some (.ref f_due)))
(F_due:FunB K "_law_due" "_law_due" sDue f_due ["_law_which"])
(a_lcall:nsIn K mainGlobals "_law_call"=some (some (.ref f_lcall)))
(F_lcall:FunB K "_law_call" "_law_call" Nu f_lcall ["_law_which","_law_things","_law_name","_law_cell"])
(a_byBase:nsIn K mainGlobals "_law_by_base"=some (some (.ref f_byBase)))
(F_byBase:FunB K "_law_by_base" "_law_by_base" Rq f_byBase ["_law_which","_law_things","_law_name","_law_cell"])
(a_byName:nsIn K mainGlobals "_law_by_name"=some (some (.ref f_byName)))
(F_byName:FunB K "_law_by_name" "_law_by_name" Rp f_byName ["_law_which","_law_things","_law_name","_law_cell"])
(a_same:nsIn K mainGlobals "_law_same"=some (some (.ref f_same)))
(F_same:FunB K "_law_same" "_law_same" bH f_same ["_law_found","_law_due_here"])
(a_twins:nsIn K mainGlobals "_law_twins"=some (some (.ref f_twins)))
(F_twins:FunB K "_law_twins" "_law_twins" Kl f_twins ["_law_thing","_law_twin","_law_names_here"])
(aS:nsIn K mainGlobals "Shelf"=some (some (.ref CS)))
(aS_mrest:findIn K (.ref CS) "rest"=some (some (.ref m_rest)))
(i_mrest:isFn K (.ref m_rest)=true)
(k_mrest:keepIn K (.ref m_rest)=true)
(F_mrest:FunB K "rest" "Book.rest" Xd m_rest ["self","steps"])
(aS_mstrength:findIn K (.ref CS) "strength"=some (some (.ref m_strength)))
(i_mstrength:isFn K (.ref m_strength)=true)
(k_mstrength:keepIn K (.ref m_strength)=true)
(F_mstrength:FunB K "strength" "Book.strength" Km m_strength ["self","name"])
(aS_mbeginAsk:findIn K (.ref CS) "begin_ask"=some (some (.ref m_beginAsk)))
(i_mbeginAsk:isFn K (.ref m_beginAsk)=true)
(k_mbeginAsk:keepIn K (.ref m_beginAsk)=true)
(F_mbeginAsk:FunB K "begin_ask" "Book.begin_ask" Hu m_beginAsk ["self","name","weight"])
(aS_mgrow:findIn K (.ref CS) "grow"=some (some (.ref m_grow)))
(i_mgrow:isFn K (.ref m_grow)=true)
(k_mgrow:keepIn K (.ref m_grow)=true)
(F_mgrow:FunB K "grow" "Book.grow" bK m_grow ["self","name","weight"])
(aS_mbeginDrop:findIn K (.ref CS) "begin_drop"=some (some (.ref m_beginDrop)))
(i_mbeginDrop:isFn K (.ref m_beginDrop)=true)
(k_mbeginDrop:keepIn K (.ref m_beginDrop)=true)
(F_mbeginDrop:FunB K "begin_drop" "Book.begin_drop" Fc m_beginDrop ["self","name"])
(aS_mpassTime:findIn K (.ref CS) "pass_time"=some (some (.ref m_passTime)))
(i_mpassTime:isFn K (.ref m_passTime)=true)
(k_mpassTime:keepIn K (.ref m_passTime)=true)
(F_mpassTime:FunB K "pass_time" "Book.pass_time" Kn m_passTime ["self","steps"])
(aS_mageCounts:findIn K (.ref CS) "age_counts"=some (some (.ref m_ageCounts)))
(i_mageCounts:isFn K (.ref m_ageCounts)=true)
(k_mageCounts:keepIn K (.ref m_ageCounts)=true)
(F_mageCounts:FunB K "age_counts" "Book.age_counts" Ix m_ageCounts ["self","times"])
(aS_mtimeNow:findIn K (.ref CS) "time_now"=some (some (.ref m_timeNow)))
(i_mtimeNow:isFn K (.ref m_timeNow)=true)
(k_mtimeNow:keepIn K (.ref m_timeNow)=true)
(F_mtimeNow:FunB K "time_now" "Book.time_now" Nm m_timeNow ["self"])
(aS_mdeedsDone:findIn K (.ref CS) "deeds_done"=some (some (.ref m_deedsDone)))
(i_mdeedsDone:isFn K (.ref m_deedsDone)=true)
(k_mdeedsDone:keepIn K (.ref m_deedsDone)=true)
(F_mdeedsDone:FunB K "deeds_done" "Book.deeds_done" Iv m_deedsDone ["self"])
(aS_mcountOf:findIn K (.ref CS) "count_of"=some (some (.ref m_countOf)))
(i_mcountOf:isFn K (.ref m_countOf)=true)
(k_mcountOf:keepIn K (.ref m_countOf)=true)
(F_mcountOf:FunB K "count_of" "Book.count_of" Js m_countOf ["self","name"])
(aS_mlastOf:findIn K (.ref CS) "last_of"=some (some (.ref m_lastOf)))
(i_mlastOf:isFn K (.ref m_lastOf)=true)
(k_mlastOf:keepIn K (.ref m_lastOf)=true)
(F_mlastOf:FunB K "last_of" "Book.last_of" L4 m_lastOf ["self","name"])
(aS_minOrder:findIn K (.ref CS) "in_order"=some (some (.ref m_inOrder)))
(i_minOrder:isFn K (.ref m_inOrder)=true)
(k_minOrder:keepIn K (.ref m_inOrder)=true)
(F_minOrder:FunB K "in_order" "Book.in_order" Nv m_inOrder ["self","names"])
(aS_msinit:findIn K (.ref CS) "__init__"=some (some (.ref m_sinit)))
(i_msinit:isFn K (.ref m_sinit)=true)
(k_msinit:keepIn K (.ref m_sinit)=true)
(F_msinit:FunB K "__init__" "Shelf.__init__" Rf m_sinit ["self","places","span","part"])
(aS_msdrop:findIn K (.ref CS) "drop"=some (some (.ref m_sdrop)))
(i_msdrop:isFn K (.ref m_sdrop)=true)
(k_msdrop:keepIn K (.ref m_sdrop)=true)
(F_msdrop:FunB K "drop" "Shelf.drop" Rg m_sdrop ["self","name"])
(aS_mtakeIn:findIn K (.ref CS) "take_in"=some (some (.ref m_takeIn)))
(i_mtakeIn:isFn K (.ref m_takeIn)=true)
(k_mtakeIn:keepIn K (.ref m_takeIn)=true)
(F_mtakeIn:FunB K "take_in" "Shelf.take_in" Rb m_takeIn ["self","name"])
(aS_mtakeOff:findIn K (.ref CS) "take_off"=some (some (.ref m_takeOff)))
(i_mtakeOff:isFn K (.ref m_takeOff)=true)
(k_mtakeOff:keepIn K (.ref m_takeOff)=true)
(F_mtakeOff:FunB K "take_off" "Shelf.take_off" No m_takeOff ["self","name","reason","count","last"])
(aS_msfade:findIn K (.ref CS) "fade"=some (some (.ref m_sfade)))
(i_msfade:isFn K (.ref m_sfade)=true)
(k_msfade:keepIn K (.ref m_sfade)=true)
(F_msfade:FunB K "fade" "Shelf.fade" Vi m_sfade ["self","name","last"])
(aS_msnames:findIn K (.ref CS) "names"=some (some (.ref m_snames)))
(i_msnames:isFn K (.ref m_snames)=true)
(k_msnames:keepIn K (.ref m_snames)=true)
(F_msnames:FunB K "names" "Shelf.names" Re m_snames ["self"])
(aS_mshas:findIn K (.ref CS) "has"=some (some (.ref m_shas)))
(i_mshas:isFn K (.ref m_shas)=true)
(k_mshas:keepIn K (.ref m_shas)=true)
(F_mshas:FunB K "has" "Shelf.has" bI m_shas ["self","name"])
(aS_msgoings:findIn K (.ref CS) "goings"=some (some (.ref m_sgoings)))
(i_msgoings:isFn K (.ref m_sgoings)=true)
(k_msgoings:keepIn K (.ref m_sgoings)=true)
(F_msgoings:FunB K "goings" "Shelf.goings" Np m_sgoings ["self"])
(a_askS:findIn K (.ref CS) "ask"=some (some (.ref fAS)))
(i_askS:isFn K (.ref fAS)=true)
(k_askS:keepIn K (.ref fAS)=true)
(l_askS:K.lookup fAS=some ⟨ocAS,odAS,.func (fnOf "ask" "Shelf.ask" (defArgs Jp) (defBody Jp) (defScope Jp) (.ref TAS) kVAS dcAS pmAS anAS cdAS ctAS),slAS⟩)
(c_askS:codeIn K cdAS "Shelf.ask"=true)
(lt_askS:K.lookup TAS=some ⟨otAS,toAS,.seq dsAS nAS,tsAS⟩)
(d_askS:dsAS=[Value.int 1 t0S].toArray)
(pgS:plainGet K CS Str.empty=true)
(hdS:hasDictIn K CS=true)
(poS:plainOver K CS=true)
(saS:findIn K (.ref CS) "__setattr__"=some (some (.builtin "object.__setattr__")))
(mkS:makesIn K CS=true)
(kcS:keepIn K (.ref CS)=true)
(n1S:findIn K (.ref CS) "span"=some none)
(n2S:findIn K (.ref CS) "part"=some none)
(n3S:findIn K (.ref CS) "time"=some none)
(n4S:findIn K (.ref CS) "deeds"=some none)
(n5S:findIn K (.ref CS) "counts"=some none)
(n6S:findIn K (.ref CS) "lasts"=some none)
(n7S:findIn K (.ref CS) "places"=some none)
(n8S:findIn K (.ref CS) "standing"=some none)
(n9S:findIn K (.ref CS) "gone"=some none)
(aR:nsIn K mainGlobals "Row"=some (some (.ref CR)))
(aR_mrest:findIn K (.ref CR) "rest"=some (some (.ref m_rest)))
(aR_mstrength:findIn K (.ref CR) "strength"=some (some (.ref m_strength)))
(aR_mbeginAsk:findIn K (.ref CR) "begin_ask"=some (some (.ref m_beginAsk)))
(aR_mgrow:findIn K (.ref CR) "grow"=some (some (.ref m_grow)))
(aR_mbeginDrop:findIn K (.ref CR) "begin_drop"=some (some (.ref m_beginDrop)))
(aR_mpassTime:findIn K (.ref CR) "pass_time"=some (some (.ref m_passTime)))
(aR_mageCounts:findIn K (.ref CR) "age_counts"=some (some (.ref m_ageCounts)))
(aR_mtimeNow:findIn K (.ref CR) "time_now"=some (some (.ref m_timeNow)))
(aR_mdeedsDone:findIn K (.ref CR) "deeds_done"=some (some (.ref m_deedsDone)))
(aR_mcountOf:findIn K (.ref CR) "count_of"=some (some (.ref m_countOf)))
(aR_mlastOf:findIn K (.ref CR) "last_of"=some (some (.ref m_lastOf)))
(aR_minOrder:findIn K (.ref CR) "in_order"=some (some (.ref m_inOrder)))
(aR_mrinit:findIn K (.ref CR) "__init__"=some (some (.ref m_rinit)))
(i_mrinit:isFn K (.ref m_rinit)=true)
(k_mrinit:keepIn K (.ref m_rinit)=true)
(F_mrinit:FunB K "__init__" "Row.__init__" Ri m_rinit ["self","span","part"])
(aR_mrdrop:findIn K (.ref CR) "drop"=some (some (.ref m_rdrop)))
(i_mrdrop:isFn K (.ref m_rdrop)=true)
(k_mrdrop:keepIn K (.ref m_rdrop)=true)
(F_mrdrop:FunB K "drop" "Row.drop" Rj m_rdrop ["self","name"])
(aR_mspotOf:findIn K (.ref CR) "spot_of"=some (some (.ref m_spotOf)))
(i_mspotOf:isFn K (.ref m_spotOf)=true)
(k_mspotOf:keepIn K (.ref m_spotOf)=true)
(F_mspotOf:FunB K "spot_of" "Row.spot_of" Rc m_spotOf ["self","name"])
(aR_mleave:findIn K (.ref CR) "leave"=some (some (.ref m_leave)))
(i_mleave:isFn K (.ref m_leave)=true)
(k_mleave:keepIn K (.ref m_leave)=true)
(F_mleave:FunB K "leave" "Row.leave" Vl m_leave ["self","spot"])
(aR_mrfade:findIn K (.ref CR) "fade"=some (some (.ref m_rfade)))
(i_mrfade:isFn K (.ref m_rfade)=true)
(k_mrfade:keepIn K (.ref m_rfade)=true)
(F_mrfade:FunB K "fade" "Row.fade" Vj m_rfade ["self","name","last"])
(aR_mbringIn:findIn K (.ref CR) "bring_in"=some (some (.ref m_bringIn)))
(i_mbringIn:isFn K (.ref m_bringIn)=true)
(k_mbringIn:keepIn K (.ref m_bringIn)=true)
(F_mbringIn:FunB K "bring_in" "Row.bring_in" Nw m_bringIn ["self","name"])
(aR_mmetBy:findIn K (.ref CR) "met_by"=some (some (.ref m_metBy)))
(i_mmetBy:isFn K (.ref m_metBy)=true)
(k_mmetBy:keepIn K (.ref m_metBy)=true)
(F_mmetBy:FunB K "met_by" "Row.met_by" Rk m_metBy ["self","places"])
(aR_menough:findIn K (.ref CR) "enough"=some (some (.ref m_enough)))
(i_menough:isFn K (.ref m_enough)=true)
(k_menough:keepIn K (.ref m_enough)=true)
(F_menough:FunB K "enough" "Row.enough" Rn m_enough ["self","many"])
(aR_mrnames:findIn K (.ref CR) "names"=some (some (.ref m_rnames)))
(i_mrnames:isFn K (.ref m_rnames)=true)
(k_mrnames:keepIn K (.ref m_rnames)=true)
(F_mrnames:FunB K "names" "Row.names" Rh m_rnames ["self"])
(aR_mspots:findIn K (.ref CR) "spots"=some (some (.ref m_spots)))
(i_mspots:isFn K (.ref m_spots)=true)
(k_mspots:keepIn K (.ref m_spots)=true)
(F_mspots:FunB K "spots" "Row.spots" Vh m_spots ["self"])
(aR_mnamesAt:findIn K (.ref CR) "names_at"=some (some (.ref m_namesAt)))
(i_mnamesAt:isFn K (.ref m_namesAt)=true)
(k_mnamesAt:keepIn K (.ref m_namesAt)=true)
(F_mnamesAt:FunB K "names_at" "Row.names_at" T4 m_namesAt ["self","places"])
(aR_mnamesOn:findIn K (.ref CR) "names_on"=some (some (.ref m_namesOn)))
(i_mnamesOn:isFn K (.ref m_namesOn)=true)
(k_mnamesOn:keepIn K (.ref m_namesOn)=true)
(F_mnamesOn:FunB K "names_on" "Row.names_on" Nt m_namesOn ["self","line"])
(a_askR:findIn K (.ref CR) "ask"=some (some (.ref fAR)))
(i_askR:isFn K (.ref fAR)=true)
(k_askR:keepIn K (.ref fAR)=true)
(l_askR:K.lookup fAR=some ⟨ocAR,odAR,.func (fnOf "ask" "Row.ask" (defArgs Jq) (defBody Jq) (defScope Jq) (.ref TAR) kVAR dcAR pmAR anAR cdAR ctAR),slAR⟩)
(c_askR:codeIn K cdAR "Row.ask"=true)
(lt_askR:K.lookup TAR=some ⟨otAR,toAR,.seq dsAR nAR,tsAR⟩)
(d_askR:dsAR=[Value.int 1 t0R].toArray)
(pgR:plainGet K CR Str.empty=true)
(hdR:hasDictIn K CR=true)
(poR:plainOver K CR=true)
(saR:findIn K (.ref CR) "__setattr__"=some (some (.builtin "object.__setattr__")))
(mkR:makesIn K CR=true)
(kcR:keepIn K (.ref CR)=true)
(n1R:findIn K (.ref CR) "span"=some none)
(n2R:findIn K (.ref CR) "part"=some none)
(n3R:findIn K (.ref CR) "time"=some none)
(n4R:findIn K (.ref CR) "deeds"=some none)
(n5R:findIn K (.ref CR) "counts"=some none)
(n6R:findIn K (.ref CR) "lasts"=some none)
(n7R:findIn K (.ref CR) "line"=some none)
(n8R:findIn K (.ref CR) "met_at"=some none)
(aK:nsIn K mainGlobals "Book"=some (some (.ref CK)))
(aK_mrest:findIn K (.ref CK) "rest"=some (some (.ref m_rest)))
(aK_mstrength:findIn K (.ref CK) "strength"=some (some (.ref m_strength)))
(aK_mbeginAsk:findIn K (.ref CK) "begin_ask"=some (some (.ref m_beginAsk)))
(aK_mgrow:findIn K (.ref CK) "grow"=some (some (.ref m_grow)))
(aK_mbeginDrop:findIn K (.ref CK) "begin_drop"=some (some (.ref m_beginDrop)))
(aK_mpassTime:findIn K (.ref CK) "pass_time"=some (some (.ref m_passTime)))
(aK_mageCounts:findIn K (.ref CK) "age_counts"=some (some (.ref m_ageCounts)))
(aK_mtimeNow:findIn K (.ref CK) "time_now"=some (some (.ref m_timeNow)))
(aK_mdeedsDone:findIn K (.ref CK) "deeds_done"=some (some (.ref m_deedsDone)))
(aK_mcountOf:findIn K (.ref CK) "count_of"=some (some (.ref m_countOf)))
(aK_mlastOf:findIn K (.ref CK) "last_of"=some (some (.ref m_lastOf)))
(aK_minOrder:findIn K (.ref CK) "in_order"=some (some (.ref m_inOrder)))
(aK_mkinit:findIn K (.ref CK) "__init__"=some (some (.ref m_kinit)))
(i_mkinit:isFn K (.ref m_kinit)=true)
(k_mkinit:keepIn K (.ref m_kinit)=true)
(F_mkinit:FunB K "__init__" "Book.__init__" T5 m_kinit ["self","span","part"])
(aK_mknames:findIn K (.ref CK) "names"=some (some (.ref m_knames)))
(i_mknames:isFn K (.ref m_knames)=true)
(k_mknames:keepIn K (.ref m_knames)=true)
(F_mknames:FunB K "names" "Book.names" Vk m_knames ["self"])
(aK_mkdrop:findIn K (.ref CK) "drop"=some (some (.ref m_kdrop)))
(i_mkdrop:isFn K (.ref m_kdrop)=true)
(k_mkdrop:keepIn K (.ref m_kdrop)=true)
(F_mkdrop:FunB K "drop" "Book.drop" Xe m_kdrop ["self","name"])
(aK_mkfade:findIn K (.ref CK) "fade"=some (some (.ref m_kfade)))
(i_mkfade:isFn K (.ref m_kfade)=true)
(k_mkfade:keepIn K (.ref m_kfade)=true)
(F_mkfade:FunB K "fade" "Book.fade" bL m_kfade ["self","name","last"])
(a_askK:findIn K (.ref CK) "ask"=some (some (.ref fAK)))
(i_askK:isFn K (.ref fAK)=true)
(k_askK:keepIn K (.ref fAK)=true)
(l_askK:K.lookup fAK=some ⟨ocAK,odAK,.func (fnOf "ask" "Book.ask" (defArgs sAsk) (defBody sAsk) (defScope sAsk) (.ref TAK) kVAK dcAK pmAK anAK cdAK ctAK),slAK⟩)
(c_askK:codeIn K cdAK "Book.ask"=true)
(lt_askK:K.lookup TAK=some ⟨otAK,toAK,.seq dsAK nAK,tsAK⟩)
(d_askK:dsAK=[Value.int 1 t0K].toArray)
(pgK:plainGet K CK Str.empty=true)
(hdK:hasDictIn K CK=true)
(poK:plainOver K CK=true)
(saK:findIn K (.ref CK) "__setattr__"=some (some (.builtin "object.__setattr__")))
(mkK:makesIn K CK=true)
(kcK:keepIn K (.ref CK)=true)
(n1K:findIn K (.ref CK) "span"=some none)
(n2K:findIn K (.ref CK) "part"=some none)
(n3K:findIn K (.ref CK) "time"=some none)
(n4K:findIn K (.ref CK) "deeds"=some none)
(n5K:findIn K (.ref CK) "counts"=some none)
(n6K:findIn K (.ref CK) "lasts"=some none)
(aXE:nsIn K mainGlobals "ShelfError"=some (some (.ref XE)))
(aXN:nsIn K mainGlobals "NoName"=some (some (.ref XN)))
(aXM:nsIn K mainGlobals "NoNumber"=some (some (.ref XM)))
(aXR:nsIn K mainGlobals "NoRule"=some (some (.ref XR)))
(iXE:(clsIn K XE).isSome=true)
(tXE:typeIn K (.ref XE)=some (.type "type"))
(bXE:subIn K (.ref XE) (.type "BaseException")=some true)
(iXN:(clsIn K XN).isSome=true)
(tXN:typeIn K (.ref XN)=some (.type "type"))
(bXN:subIn K (.ref XN) (.type "BaseException")=some true)
(iXM:(clsIn K XM).isSome=true)
(tXM:typeIn K (.ref XM)=some (.type "type"))
(bXM:subIn K (.ref XM) (.type "BaseException")=some true)
(iXR:(clsIn K XR).isSome=true)
(tXR:typeIn K (.ref XR)=some (.type "type"))
(bXR:subIn K (.ref XR) (.type "BaseException")=some true)
(exXN:excIn K XN bmVE "ValueError.__new__"=true)
(gaXN:findIn K (.ref XN) "__getattribute__"=some (some (.builtin "BaseException.__getattribute__")))
(noXN:findIn K (.ref XN) "__getattr__"=some none)
(clXN:findIn K (.ref XN) "__class__"=some (some (.builtin "object.__class__")))
(obXN:subIn K (.ref XN) (.type "object")=some true)
(vXN:subIn K (.ref XN) (.type "ValueError")=some true)
(sNE:subIn K (.ref XN) (.ref XE)=some true)
(sNN:subIn K (.ref XN) (.ref XN)=some true)
(sNM:subIn K (.ref XN) (.ref XM)=some false)
(sNR:subIn K (.ref XN) (.ref XR)=some false)
(exXM:excIn K XM bmVE "ValueError.__new__"=true)
(gaXM:findIn K (.ref XM) "__getattribute__"=some (some (.builtin "BaseException.__getattribute__")))
(noXM:findIn K (.ref XM) "__getattr__"=some none)
(clXM:findIn K (.ref XM) "__class__"=some (some (.builtin "object.__class__")))
(obXM:subIn K (.ref XM) (.type "object")=some true)
(vXM:subIn K (.ref XM) (.type "ValueError")=some true)
(sME:subIn K (.ref XM) (.ref XE)=some true)
(sMN:subIn K (.ref XM) (.ref XN)=some false)
(sMM:subIn K (.ref XM) (.ref XM)=some true)
(sMR:subIn K (.ref XM) (.ref XR)=some false)
(exXR:excIn K XR bmVE "ValueError.__new__"=true)
(gaXR:findIn K (.ref XR) "__getattribute__"=some (some (.builtin "BaseException.__getattribute__")))
(noXR:findIn K (.ref XR) "__getattr__"=some none)
(clXR:findIn K (.ref XR) "__class__"=some (some (.builtin "object.__class__")))
(obXR:subIn K (.ref XR) (.type "object")=some true)
(vXR:subIn K (.ref XR) (.type "ValueError")=some true)
(sRE:subIn K (.ref XR) (.ref XE)=some true)
(sRN:subIn K (.ref XR) (.ref XN)=some false)
(sRM:subIn K (.ref XR) (.ref XM)=some false)
(sRR:subIn K (.ref XR) (.ref XR)=some true)
(haS:findIn K (.ref CS) "__class__"=some (some (.builtin "object.__class__")))
(hm_S:mroIn K CS (.type "object")=some true)
(hs_S:subIn K (.ref CS) (.ref CK)=some true)
(hself_S:subIn K (.ref CS) (.ref CS)=some true)
(haR:findIn K (.ref CR) "__class__"=some (some (.builtin "object.__class__")))
(hm_R:mroIn K CR (.type "object")=some true)
(hs_R:subIn K (.ref CR) (.ref CK)=some true)
(hself_R:subIn K (.ref CR) (.ref CR)=some true)
(hn_c:specialIn K (.builtin "object.__class__") "__get__"=some (some (.builtin "getset_descriptor.__get__")))
(ht_c:takesIn K (.builtin "object.__class__")=some true)
(iK:(clsIn K CK).isSome=true)
(tK:typeIn K (.ref CK)=some (.type "type"))
(s_cm:specialIn K (.ref C0) "__getattribute__"=some (some (.builtin "type.__getattribute__")))
(r_cm:readsIn K C0 (.type "type")=true)
(f_cm:findCls K (.ref C0) (.type "type") "__init__"=some (CFound.val (.ref m_binit)))
(F_binit:FunB K "__init__" "Book.__init__" T5 m_binit ["self","span","part"])
(g_st:specialIn K (.ref m_strength) "__get__"=some (some (.builtin "function.__get__")))
(t_st:takesIn K (.ref m_strength)=some false)
(a_law:nsIn K mainGlobals "law"=some (some (.ref fL)))
(F_law:Fun K "law" "law" sLaw fL fd)
(b_law:∀ (s:Shared) (v:Value),BindsTo s fd ⟨[v],[]⟩ [("_law_script",v)])
(z_isi:nsIn K mainGlobals "isinstance"=some none)
(z_len:nsIn K mainGlobals "len"=some none)
(z_all_:nsIn K mainGlobals "all"=some none)
(z_min_:nsIn K mainGlobals "min"=some none)
(z_range:nsIn K mainGlobals "range"=some none)
(z_list:nsIn K mainGlobals "list"=some none)
(z_sorted:nsIn K mainGlobals "sorted"=some none)
(z_enum:nsIn K mainGlobals "enumerate"=some none)
(z_int:nsIn K mainGlobals "int"=some none)
(z_bool:nsIn K mainGlobals "bool"=some none)
(z_str:nsIn K mainGlobals "str"=some none)
(z_zip:nsIn K mainGlobals "zip"=some none)
(z_sum:nsIn K mainGlobals "sum"=some none)
(z_ve:nsIn K mainGlobals "ValueError"=some none) :
   ∃ fd:FuncData,(∀ (s:Shared) (v:Value),BindsTo s fd ⟨[v],[]⟩ [("_law_script",v)])∧∀ base:Heap,K.In base->base.Ns mainGlobals mg->FnOk l.prog w K mg base CX0 23 fa fd ["_law_script"] (W2 K):=by
  have e:=hfa.symm.trans (mg_of X G a_law)
  cases e
  have B:Blt mg:=⟨mg_none_of X G z_isi,mg_none_of X G z_len,mg_none_of X G z_all_,mg_none_of X G z_min_,mg_none_of X G z_range,mg_none_of X G z_list,mg_none_of X G z_sorted,mg_none_of X G z_enum,mg_none_of X G z_int,mg_none_of X G z_bool,mg_none_of X G z_str⟩
  have b_zip:=mg_none_of X G z_zip
  have b_sum:=mg_none_of X G z_sum
  have b_ve:=mg_none_of X G z_ve
  have hmB:=mg_of X G aB
  have cm:Pb K C0 "__init__" m_binit:=⟨s_cm,r_cm,f_cm⟩
  have h_whole:=mg_of X G a_whole
  have h_name:=mg_of X G a_name
  have h_ckName:=mg_of X G a_ckName
  have h_ckWeight:=mg_of X G a_ckWeight
  have h_ckSteps:=mg_of X G a_ckSteps
  have h_ckPlaces:=mg_of X G a_ckPlaces
  have h_ckMany:=mg_of X G a_ckMany
  have h_ckRule:=mg_of X G a_ckRule
  have h_ageings:=mg_of X G a_ageings
  have h_aged:=mg_of X G a_aged
  have h_cell:=mg_of X G a_cell
  have h_sign:=mg_of X G a_sign
  have h_lnames:=mg_of X G a_lnames
  have h_span:=mg_of X G a_span
  have h_part:=mg_of X G a_part
  have h_deed:=mg_of X G a_deed
  have h_do:=mg_of X G a_do
  have h_badName:=mg_of X G a_badName
  have h_badNumber:=mg_of X G a_badNumber
  have h_thing:=mg_of X G a_thing
  have h_own:=mg_of X G a_own
  have h_new:=mg_of X G a_new
  have h_due:=mg_of X G a_due
  have h_lcall:=mg_of X G a_lcall
  have h_byBase:=mg_of X G a_byBase
  have h_byName:=mg_of X G a_byName
  have h_same:=mg_of X G a_same
  have h_twins:=mg_of X G a_twins
  subst d_askS
  have F_askS:=Sn (st:=Jp) (ds:=[.int 1 t0S]) l_askS c_askS k_askS lt_askS
  have clS:Cls K CS:=⟨pgS,hdS,poS,saS⟩
  have TBS:BTxt K CS:=⟨clS,n1S,n2S,n3S,n4S,n5S,n6S⟩
  have TS:STxt K CS:=⟨TBS,n7S,n8S,n9S⟩
  have hmS:=mg_of X G aS
  have MS_rest:Meth K CS "rest" m_rest:=⟨aS_mrest,i_mrest,k_mrest⟩
  have MS_strength:Meth K CS "strength" m_strength:=⟨aS_mstrength,i_mstrength,k_mstrength⟩
  have MS_beginAsk:Meth K CS "begin_ask" m_beginAsk:=⟨aS_mbeginAsk,i_mbeginAsk,k_mbeginAsk⟩
  have MS_grow:Meth K CS "grow" m_grow:=⟨aS_mgrow,i_mgrow,k_mgrow⟩
  have MS_beginDrop:Meth K CS "begin_drop" m_beginDrop:=⟨aS_mbeginDrop,i_mbeginDrop,k_mbeginDrop⟩
  have MS_passTime:Meth K CS "pass_time" m_passTime:=⟨aS_mpassTime,i_mpassTime,k_mpassTime⟩
  have MS_ageCounts:Meth K CS "age_counts" m_ageCounts:=⟨aS_mageCounts,i_mageCounts,k_mageCounts⟩
  have MS_timeNow:Meth K CS "time_now" m_timeNow:=⟨aS_mtimeNow,i_mtimeNow,k_mtimeNow⟩
  have MS_deedsDone:Meth K CS "deeds_done" m_deedsDone:=⟨aS_mdeedsDone,i_mdeedsDone,k_mdeedsDone⟩
  have MS_countOf:Meth K CS "count_of" m_countOf:=⟨aS_mcountOf,i_mcountOf,k_mcountOf⟩
  have MS_lastOf:Meth K CS "last_of" m_lastOf:=⟨aS_mlastOf,i_mlastOf,k_mlastOf⟩
  have MS_inOrder:Meth K CS "in_order" m_inOrder:=⟨aS_minOrder,i_minOrder,k_minOrder⟩
  have MS_sinit:Meth K CS "__init__" m_sinit:=⟨aS_msinit,i_msinit,k_msinit⟩
  have MS_sdrop:Meth K CS "drop" m_sdrop:=⟨aS_msdrop,i_msdrop,k_msdrop⟩
  have MS_takeIn:Meth K CS "take_in" m_takeIn:=⟨aS_mtakeIn,i_mtakeIn,k_mtakeIn⟩
  have MS_takeOff:Meth K CS "take_off" m_takeOff:=⟨aS_mtakeOff,i_mtakeOff,k_mtakeOff⟩
  have MS_sfade:Meth K CS "fade" m_sfade:=⟨aS_msfade,i_msfade,k_msfade⟩
  have MS_snames:Meth K CS "names" m_snames:=⟨aS_msnames,i_msnames,k_msnames⟩
  have MS_shas:Meth K CS "has" m_shas:=⟨aS_mshas,i_mshas,k_mshas⟩
  have MS_sgoings:Meth K CS "goings" m_sgoings:=⟨aS_msgoings,i_msgoings,k_msgoings⟩
  have MS_ask:Meth K CS "ask" fAS:=⟨a_askS,i_askS,k_askS⟩
  have mkS:Mk K CS m_sinit:=⟨mkS,aS_msinit,i_msinit,kcS⟩
  have MVS:O8 K CS "strength" m_strength:=⟨MS_strength,g_st,t_st,by decide⟩
  subst d_askR
  have F_askR:=Sn (st:=Jq) (ds:=[.int 1 t0R]) l_askR c_askR k_askR lt_askR
  have clR:Cls K CR:=⟨pgR,hdR,poR,saR⟩
  have TBR:BTxt K CR:=⟨clR,n1R,n2R,n3R,n4R,n5R,n6R⟩
  have TR:RTxt K CR:=⟨TBR,n7R,n8R⟩
  have hmR:=mg_of X G aR
  have MR_rest:Meth K CR "rest" m_rest:=⟨aR_mrest,i_mrest,k_mrest⟩
  have MR_strength:Meth K CR "strength" m_strength:=⟨aR_mstrength,i_mstrength,k_mstrength⟩
  have MR_beginAsk:Meth K CR "begin_ask" m_beginAsk:=⟨aR_mbeginAsk,i_mbeginAsk,k_mbeginAsk⟩
  have MR_grow:Meth K CR "grow" m_grow:=⟨aR_mgrow,i_mgrow,k_mgrow⟩
  have MR_beginDrop:Meth K CR "begin_drop" m_beginDrop:=⟨aR_mbeginDrop,i_mbeginDrop,k_mbeginDrop⟩
  have MR_passTime:Meth K CR "pass_time" m_passTime:=⟨aR_mpassTime,i_mpassTime,k_mpassTime⟩
  have MR_ageCounts:Meth K CR "age_counts" m_ageCounts:=⟨aR_mageCounts,i_mageCounts,k_mageCounts⟩
  have MR_timeNow:Meth K CR "time_now" m_timeNow:=⟨aR_mtimeNow,i_mtimeNow,k_mtimeNow⟩
  have MR_deedsDone:Meth K CR "deeds_done" m_deedsDone:=⟨aR_mdeedsDone,i_mdeedsDone,k_mdeedsDone⟩
  have MR_countOf:Meth K CR "count_of" m_countOf:=⟨aR_mcountOf,i_mcountOf,k_mcountOf⟩
  have MR_lastOf:Meth K CR "last_of" m_lastOf:=⟨aR_mlastOf,i_mlastOf,k_mlastOf⟩
  have MR_inOrder:Meth K CR "in_order" m_inOrder:=⟨aR_minOrder,i_minOrder,k_minOrder⟩
  have MR_rinit:Meth K CR "__init__" m_rinit:=⟨aR_mrinit,i_mrinit,k_mrinit⟩
  have MR_rdrop:Meth K CR "drop" m_rdrop:=⟨aR_mrdrop,i_mrdrop,k_mrdrop⟩
  have MR_spotOf:Meth K CR "spot_of" m_spotOf:=⟨aR_mspotOf,i_mspotOf,k_mspotOf⟩
  have MR_leave:Meth K CR "leave" m_leave:=⟨aR_mleave,i_mleave,k_mleave⟩
  have MR_rfade:Meth K CR "fade" m_rfade:=⟨aR_mrfade,i_mrfade,k_mrfade⟩
  have MR_bringIn:Meth K CR "bring_in" m_bringIn:=⟨aR_mbringIn,i_mbringIn,k_mbringIn⟩
  have MR_metBy:Meth K CR "met_by" m_metBy:=⟨aR_mmetBy,i_mmetBy,k_mmetBy⟩
  have MR_enough:Meth K CR "enough" m_enough:=⟨aR_menough,i_menough,k_menough⟩
  have MR_rnames:Meth K CR "names" m_rnames:=⟨aR_mrnames,i_mrnames,k_mrnames⟩
  have MR_spots:Meth K CR "spots" m_spots:=⟨aR_mspots,i_mspots,k_mspots⟩
  have MR_namesAt:Meth K CR "names_at" m_namesAt:=⟨aR_mnamesAt,i_mnamesAt,k_mnamesAt⟩
  have MR_namesOn:Meth K CR "names_on" m_namesOn:=⟨aR_mnamesOn,i_mnamesOn,k_mnamesOn⟩
  have MR_ask:Meth K CR "ask" fAR:=⟨a_askR,i_askR,k_askR⟩
  have mkR:Mk K CR m_rinit:=⟨mkR,aR_mrinit,i_mrinit,kcR⟩
  have MVR:O8 K CR "strength" m_strength:=⟨MR_strength,g_st,t_st,by decide⟩
  subst d_askK
  have F_askK:=Sn (st:=sAsk) (ds:=[.int 1 t0K]) l_askK c_askK k_askK lt_askK
  have clK:Cls K CK:=⟨pgK,hdK,poK,saK⟩
  have TBK:BTxt K CK:=⟨clK,n1K,n2K,n3K,n4K,n5K,n6K⟩
  have hmK:=mg_of X G aK
  have MK_rest:Meth K CK "rest" m_rest:=⟨aK_mrest,i_mrest,k_mrest⟩
  have MK_strength:Meth K CK "strength" m_strength:=⟨aK_mstrength,i_mstrength,k_mstrength⟩
  have MK_beginAsk:Meth K CK "begin_ask" m_beginAsk:=⟨aK_mbeginAsk,i_mbeginAsk,k_mbeginAsk⟩
  have MK_grow:Meth K CK "grow" m_grow:=⟨aK_mgrow,i_mgrow,k_mgrow⟩
  have MK_beginDrop:Meth K CK "begin_drop" m_beginDrop:=⟨aK_mbeginDrop,i_mbeginDrop,k_mbeginDrop⟩
  have MK_passTime:Meth K CK "pass_time" m_passTime:=⟨aK_mpassTime,i_mpassTime,k_mpassTime⟩
  have MK_ageCounts:Meth K CK "age_counts" m_ageCounts:=⟨aK_mageCounts,i_mageCounts,k_mageCounts⟩
  have MK_timeNow:Meth K CK "time_now" m_timeNow:=⟨aK_mtimeNow,i_mtimeNow,k_mtimeNow⟩
  have MK_deedsDone:Meth K CK "deeds_done" m_deedsDone:=⟨aK_mdeedsDone,i_mdeedsDone,k_mdeedsDone⟩
  have MK_countOf:Meth K CK "count_of" m_countOf:=⟨aK_mcountOf,i_mcountOf,k_mcountOf⟩
  have MK_lastOf:Meth K CK "last_of" m_lastOf:=⟨aK_mlastOf,i_mlastOf,k_mlastOf⟩
  have MK_inOrder:Meth K CK "in_order" m_inOrder:=⟨aK_minOrder,i_minOrder,k_minOrder⟩
  have MK_kinit:Meth K CK "__init__" m_kinit:=⟨aK_mkinit,i_mkinit,k_mkinit⟩
  have MK_knames:Meth K CK "names" m_knames:=⟨aK_mknames,i_mknames,k_mknames⟩
  have MK_kdrop:Meth K CK "drop" m_kdrop:=⟨aK_mkdrop,i_mkdrop,k_mkdrop⟩
  have MK_kfade:Meth K CK "fade" m_kfade:=⟨aK_mkfade,i_mkfade,k_mkfade⟩
  have MK_ask:Meth K CK "ask" fAK:=⟨a_askK,i_askK,k_askK⟩
  have mkK:Mk K CK m_kinit:=⟨mkK,aK_mkinit,i_mkinit,kcK⟩
  have MVK:O8 K CK "strength" m_strength:=⟨MK_strength,g_st,t_st,by decide⟩
  refine ⟨fd,b_law,fun base _ _=>?_⟩
  have xoN:XOf K XE XN XM XR XN true false false:=⟨⟨gaXN,noXN,clXN,bXN,obXN,iXN⟩,D1 bXE iXE tXE sNE,D1 bXN iXN tXN sNN,D1 bXM iXM tXM sNM,D1 bXR iXR tXR sNR,V9 vXN,Eh iXN tXN sNN sNN,Eh iXM tXM sNM sNN,Eh iXR tXR sNR sNN⟩
  have xoM:XOf K XE XN XM XR XM false true false:=⟨⟨gaXM,noXM,clXM,bXM,obXM,iXM⟩,D1 bXE iXE tXE sME,D1 bXN iXN tXN sMN,D1 bXM iXM tXM sMM,D1 bXR iXR tXR sMR,V9 vXM,Eh iXN tXN sMN sMM,Eh iXM tXM sMM sMM,Eh iXR tXR sMR sMM⟩
  have xoR:XOf K XE XN XM XR XR false false true:=⟨⟨gaXR,noXR,clXR,bXR,obXR,iXR⟩,D1 bXE iXE tXE sRE,D1 bXN iXN tXN sRN,D1 bXM iXM tXM sRM,D1 bXR iXR tXR sRR,V9 vXR,Eh iXN tXN sRN sRR,Eh iXM tXM sRM sRR,Eh iXR tXR sRR sRR⟩
  have ZX:Excs K mg XE XN XM XR:=⟨xoN,xoM,xoR,mg_of X G aXE,mg_of X G aXN,mg_of X G aXM,mg_of X G aXR,b_ve⟩
  have EN:Exc K mg "NoName" XN:=⟨mg_of X G aXN,exXN⟩
  have EM:Exc K mg "NoNumber" XM:=⟨mg_of X G aXM,exXM⟩
  have ER:Exc K mg "NoRule" XR:=⟨mg_of X G aXR,exXR⟩
  have IS:InsK K CS CK:=⟨haS,hn_c,ht_c,hm_S,Eh iK tK hs_S hself_S⟩
  have IR:InsK K CR CK:=⟨haR,hn_c,ht_c,hm_R,Eh iK tK hs_R hself_R⟩
  have g_whole:=cE (P:=l.prog) (w:=w) (base:=base) F_whole B
  have g_name:=gM (P:=l.prog) (w:=w) (base:=base) F_name B
  have g_ckName:=Yy F_ckName g_name h_name
  have g_ckWeight:=Uf F_ckWeight g_whole h_whole
  have g_ckSteps:=Vy F_ckSteps g_whole h_whole
  have g_ckPlaces:=Uh F_ckPlaces g_whole h_whole
  have g_ckMany:=Yz F_ckMany g_whole h_whole
  have g_ckRule:=Yx F_ckRule g_whole h_whole
  have g_ageings:=V4 (P:=l.prog) (w:=w) (mg:=mg) (base:=base) F_ageings
  have g_aged:=gT (P:=l.prog) (w:=w) (base:=base) F_aged B
  have oS_strength:=Gq (P:=l.prog) (w:=w) (mg:=mg) (base:=base) (Aq CS) F_mstrength TBS
  have oS_grow:=R1 (P:=l.prog) (w:=w) (mg:=mg) (base:=base) (Aq CS) F_mgrow TBS
  have oS_takeOff:=Vt (P:=l.prog) (w:=w) (mg:=mg) (base:=base) F_mtakeOff TS
  have oS_fade:=cJ F_msfade TS oS_takeOff MS_takeOff
  have oS_ageCounts:=Fj (Aq CS) Bu F_mageCounts TBS B g_aged h_aged oS_fade MS_sfade
  have oS_passTime:=Gu (Aq CS) Bu F_mpassTime TBS g_ageings h_ageings oS_ageCounts MS_ageCounts
  have oS_beginAsk:=Gv (Aq CS) Bu F_mbeginAsk TBS g_ckName h_ckName g_ckWeight h_ckWeight oS_passTime MS_passTime
  have oS_rest:=Rz (Aq CS) Bu F_mrest TBS g_ckSteps h_ckSteps oS_passTime MS_passTime
  have oS_beginDrop:=Fi (Aq CS) F_mbeginDrop TBS g_ckName h_ckName
  have oS_binit:=R0 F_binit TBS g_ckRule h_ckRule
  have oS_drop:=cK F_msdrop TS oS_beginDrop MS_beginDrop oS_takeOff MS_takeOff
  have oS_takeIn:=Yn F_mtakeIn TS B oS_takeOff MS_takeOff oS_strength MVS
  have oS_ask:=gJ F_askS TS oS_beginAsk MS_beginAsk oS_grow MS_grow oS_takeIn MS_takeIn
  have oS_init:=cH F_msinit TS g_ckPlaces h_ckPlaces hmB cm oS_binit
  have oS_time:=Ry (P:=l.prog) (w:=w) (mg:=mg) (base:=base) (Aq CS) F_mtimeNow TBS
  have oS_deeds:=Od (P:=l.prog) (w:=w) (mg:=mg) (base:=base) (Aq CS) F_mdeedsDone TBS
  have oS_count:=Ja (Aq CS) F_mcountOf TBS g_ckName h_ckName
  have oS_last:=Kq (Aq CS) F_mlastOf TBS g_ckName h_ckName
  have oS_inOrder:=Iz (Aq CS) F_minOrder TBS B oS_strength MVS
  have oS_names:=Yp F_msnames TS oS_inOrder MS_inOrder
  have oS_goings:=Vu (P:=l.prog) (w:=w) (base:=base) F_msgoings B TS
  have oR_strength:=Gq (P:=l.prog) (w:=w) (mg:=mg) (base:=base) (rows CR) F_mstrength TBR
  have oR_grow:=R1 (P:=l.prog) (w:=w) (mg:=mg) (base:=base) (rows CR) F_mgrow TBR
  have oR_spotOf:=Yo (P:=l.prog) (w:=w) (mg:=mg) (base:=base) F_mspotOf TR
  have oR_leave:=cX (P:=l.prog) (w:=w) (mg:=mg) (base:=base) F_mleave TR
  have oR_fade:=cP F_mrfade TR oR_spotOf MR_spotOf oR_leave MR_leave
  have oR_ageCounts:=Fj (rows CR) Df F_mageCounts TBR B g_aged h_aged oR_fade MR_rfade
  have oR_passTime:=Gu (rows CR) Df F_mpassTime TBR g_ageings h_ageings oR_ageCounts MR_ageCounts
  have oR_beginAsk:=Gv (rows CR) Df F_mbeginAsk TBR g_ckName h_ckName g_ckWeight h_ckWeight oR_passTime MR_passTime
  have oR_rest:=Rz (rows CR) Df F_mrest TBR g_ckSteps h_ckSteps oR_passTime MR_passTime
  have oR_beginDrop:=Fi (rows CR) F_mbeginDrop TBR g_ckName h_ckName
  have oR_binit:=R0 F_binit TBR g_ckRule h_ckRule
  have oR_drop:=cQ F_mrdrop TR oR_beginDrop MR_beginDrop oR_spotOf MR_spotOf oR_leave MR_leave
  have oR_bringIn:=V2 F_mbringIn TR B oR_strength MR_strength
  have oR_ask:=gK F_askR TR oR_beginAsk MR_beginAsk oR_grow MR_grow oR_spotOf MR_spotOf oR_leave MR_leave oR_bringIn MR_bringIn
  have oR_init:=cN F_mrinit TR hmB cm oR_binit
  have oR_metBy:=cW F_mmetBy TR b_sum g_ckPlaces h_ckPlaces
  have oR_time:=Ry (P:=l.prog) (w:=w) (mg:=mg) (base:=base) (rows CR) F_mtimeNow TBR
  have oR_deeds:=Od (P:=l.prog) (w:=w) (mg:=mg) (base:=base) (rows CR) F_mdeedsDone TBR
  have oR_count:=Ja (rows CR) F_mcountOf TBR g_ckName h_ckName
  have oR_last:=Kq (rows CR) F_mlastOf TBR g_ckName h_ckName
  have oR_inOrder:=Iz (rows CR) F_minOrder TBR B oR_strength MVR
  have oR_namesOn:=Vv F_mnamesOn TR oR_inOrder MR_inOrder
  have oR_names:=Ys F_mrnames TR oR_namesOn MR_namesOn
  have oR_spots:=cG (P:=l.prog) (w:=w) (base:=base) F_mspots B TR
  have oK_strength:=Gq (P:=l.prog) (w:=w) (mg:=mg) (base:=base) (Bg CK) F_mstrength TBK
  have oK_grow:=R1 (P:=l.prog) (w:=w) (mg:=mg) (base:=base) (Bg CK) F_mgrow TBK
  have oK_fade:=gN (P:=l.prog) (w:=w) (mg:=mg) (base:=base) (C:=CK) F_mkfade
  have oK_ageCounts:=Fj (Bg CK) Fy F_mageCounts TBK B g_aged h_aged oK_fade MK_kfade
  have oK_passTime:=Gu (Bg CK) Fy F_mpassTime TBK g_ageings h_ageings oK_ageCounts MK_ageCounts
  have oK_beginAsk:=Gv (Bg CK) Fy F_mbeginAsk TBK g_ckName h_ckName g_ckWeight h_ckWeight oK_passTime MK_passTime
  have oK_rest:=Rz (Bg CK) Fy F_mrest TBK g_ckSteps h_ckSteps oK_passTime MK_passTime
  have oK_beginDrop:=Fi (Bg CK) F_mbeginDrop TBK g_ckName h_ckName
  have oK_init:=R0 F_mkinit TBK g_ckRule h_ckRule
  have oK_time:=Ry (P:=l.prog) (w:=w) (mg:=mg) (base:=base) (Bg CK) F_mtimeNow TBK
  have oK_deeds:=Od (P:=l.prog) (w:=w) (mg:=mg) (base:=base) (Bg CK) F_mdeedsDone TBK
  have oK_count:=Ja (Bg CK) F_mcountOf TBK g_ckName h_ckName
  have oK_last:=Kq (Bg CK) F_mlastOf TBK g_ckName h_ckName
  have oK_inOrder:=Iz (Bg CK) F_minOrder TBK B oK_strength MVK
  have oK_names:=cU (Bg CK) F_mknames TBK oK_inOrder MK_inOrder
  have oK_drop:=gP (Bg CK) F_mkdrop TBK oK_beginDrop MK_beginDrop
  have oK_ask:=jY (Bg CK) Fy F_askK TBK oK_beginAsk MK_beginAsk oK_grow MK_grow
  have g_cell:=gR (P:=l.prog) (w:=w) (base:=base) F_cell B
  have g_sign:=gH (P:=l.prog) (w:=w) (mg:=mg) (base:=base) F_sign
  have g_lnames:=Yw F_lnames B g_sign h_sign
  have g_span:=gG (P:=l.prog) (w:=w) (mg:=mg) (base:=base) F_span
  have g_part:=gL (P:=l.prog) (w:=w) (mg:=mg) (base:=base) F_part
  have g_deed:=gQ (P:=l.prog) (w:=w) (base:=base) F_deed B
  have g_wholeB:=Ym (P:=l.prog) (w:=w) (base:=base) F_whole B
  have g_nameB:=cV (P:=l.prog) (w:=w) (base:=base) F_name B
  have g_ckNameB:=V0 F_ckName g_nameB h_name EN
  have g_ckWeightB:=R3 F_ckWeight g_wholeB h_whole EM
  have g_ckStepsB:=Ug F_ckSteps g_wholeB h_whole EM
  have g_ckPlacesB:=R4 F_ckPlaces g_wholeB h_whole EM
  have g_ckManyB:=V1 F_ckMany g_wholeB h_whole EM
  have g_ckRuleB:=Vz F_ckRule g_wholeB g_whole h_whole ER
  have q_count:=Ue F_mcountOf g_ckNameB h_ckName
  have q_last:=Vw F_mlastOf g_ckNameB h_ckName
  have q_beginDrop:=Pf F_mbeginDrop g_ckNameB h_ckName
  have q_rest:=cM F_mrest g_ckStepsB h_ckSteps
  have q_beginAsk:=R5 F_mbeginAsk g_ckNameB g_ckName h_ckName g_ckWeightB h_ckWeight
  have q_has:=cI F_mshas g_ckNameB h_ckName
  have q_namesAt:=Uc F_mnamesAt g_ckPlacesB h_ckPlaces
  have q_metBy:=Yv F_mmetBy g_ckPlacesB h_ckPlaces
  have q_enough:=Vx F_menough g_ckManyB h_ckMany
  have q_init:=Ud F_binit g_ckRuleB h_ckRule
  have q_kinit:=Ud F_mkinit g_ckRuleB h_ckRule
  have q_rinit:=Yt F_mrinit q_init cm hmB
  have q_sinit:=Yq F_msinit g_ckPlacesB g_ckPlaces h_ckPlaces q_init cm hmB
  have TSG:Thg l.prog w K mg base CS XN XM:=⟨clS,⟨_,_,_,cL F_askS clS q_beginAsk MS_beginAsk,Lm F_askS,Ll F_askS,MS_ask⟩,⟨_,Yr F_msdrop clS q_beginDrop MS_beginDrop,MS_sdrop⟩,⟨_,q_count,MS_countOf⟩,⟨_,q_last,MS_lastOf⟩,⟨_,q_rest,MS_rest⟩⟩
  have TRG:Thg l.prog w K mg base CR XN XM:=⟨clR,⟨_,_,_,cS F_askR clR q_beginAsk MR_beginAsk,Lo F_askR,Ln F_askR,MR_ask⟩,⟨_,Yu F_mrdrop clR q_beginDrop MR_beginDrop,MR_rdrop⟩,⟨_,q_count,MR_countOf⟩,⟨_,q_last,MR_lastOf⟩,⟨_,q_rest,MR_rest⟩⟩
  have TKG:Thg l.prog w K mg base CK XN XM:=⟨clK,⟨_,_,_,gS F_askK clK q_beginAsk MK_beginAsk,Lq F_askK,Lp F_askK,MK_ask⟩,⟨_,cZ F_mkdrop clK q_beginDrop MK_beginDrop,MK_kdrop⟩,⟨_,q_count,MK_countOf⟩,⟨_,q_last,MK_lastOf⟩,⟨_,q_rest,MK_rest⟩⟩
  have OG:Own l.prog w K mg base CS CR XN XM:=⟨clS,clR,⟨_,q_has,MS_shas⟩,⟨_,q_namesAt,MR_namesAt⟩,⟨_,q_metBy,MR_metBy⟩,⟨_,q_enough,MR_enough⟩⟩
  have NG:New l.prog w K mg base XM XR:=⟨⟨_,_,hmS,mkS,q_sinit⟩,⟨_,_,hmR,mkR,q_rinit⟩,⟨_,_,hmK,mkK,q_kinit⟩⟩
  have g_badName:=V3 (P:=l.prog) (w:=w) (mg:=mg) (base:=base) F_badName
  have g_badNumber:=R6 (P:=l.prog) (w:=w) (base:=base) F_badNumber B
  have gS_thing:=Oc F_thing TSG g_badName h_badName g_badNumber h_badNumber
  have gR_thing:=Oc F_thing TRG g_badName h_badName g_badNumber h_badNumber
  have gK_thing:=Oc F_thing TKG g_badName h_badName g_badNumber h_badNumber
  have g_own:=jT F_own OG g_badName h_badName g_badNumber h_badNumber
  have g_new:=jU F_new NG g_badNumber h_badNumber
  have g_due:=jW (P:=l.prog) (w:=w) (mg:=mg) (base:=base) F_due
  have g_lcall:=cY F_lcall h_thing gS_thing gR_thing gK_thing g_own h_own g_new h_new
  have g_byBase:=Y1 F_byBase B ZX g_lcall h_lcall g_due h_due
  have g_byName:=Y0 F_byName ZX g_lcall h_lcall g_due h_due
  have g_same:=gI (P:=l.prog) (w:=w) (base:=base) F_same B
  have DS:DoM l.prog w K mg base CS (Qz CS) (Es (Aq CS) Bu) (Lx CS):=⟨clS,⟨_,_,_,oS_ask.mono (by decide),Lm F_askS,Ll F_askS,MS_ask⟩,⟨_,oS_rest.mono (by decide),MS_rest⟩,⟨_,oS_drop.mono (by decide),MS_sdrop⟩⟩
  have DR:DoM l.prog w K mg base CR (Q0 CR) (Es (rows CR) Df) (Ly CR):=⟨clR,⟨_,_,_,oR_ask.mono (by decide),Lo F_askR,Ln F_askR,MR_ask⟩,⟨_,oR_rest.mono (by decide),MR_rest⟩,⟨_,oR_drop.mono (by decide),MR_rdrop⟩⟩
  have DK:DoM l.prog w K mg base CK (W4 (Bg CK) Fy) (Es (Bg CK) Fy) (Q5 (Bg CK)):=⟨clK,⟨_,_,_,oK_ask.mono (by decide),Lq F_askK,Lp F_askK,MK_ask⟩,⟨_,oK_rest.mono (by decide),MK_rest⟩,⟨_,oK_drop.mono (by decide),MK_kdrop⟩⟩
  have WS:TwM l.prog w K mg base (Aq CS) (fun _ t=>t.stand):=⟨clS,⟨_,oS_names.mono (by decide),MS_snames⟩,⟨_,oS_time,MS_timeNow⟩,⟨_,oS_deeds,MS_deedsDone⟩,⟨_,oS_count,MS_countOf⟩,⟨_,oS_last,MS_lastOf⟩⟩
  have WR:TwM l.prog w K mg base (rows CR) (fun _ t=>Cl t.line):=⟨clR,⟨_,oR_names.mono (by decide),MR_rnames⟩,⟨_,oR_time,MR_timeNow⟩,⟨_,oR_deeds,MR_deedsDone⟩,⟨_,oR_count,MR_countOf⟩,⟨_,oR_last,MR_lastOf⟩⟩
  have WK:TwM l.prog w K mg base (Bg CK) (fun S _=>An S.ents):=⟨clK,⟨_,oK_names.mono (by decide),MK_knames⟩,⟨_,oK_time,MK_timeNow⟩,⟨_,oK_deeds,MK_deedsDone⟩,⟨_,oK_count,MK_countOf⟩,⟨_,oK_last,MK_lastOf⟩⟩
  have g_do:=jX F_do DS DR DK
  have g_twins:=cF F_twins WS WR WK
  exact jV F_law B b_zip TS TR TBK ⟨_,g_cell,h_cell,_,g_lnames,h_lnames,_,g_span,h_span,_,g_part,h_part,_,g_deed,h_deed,_,g_do,h_do,_,g_byBase,h_byBase,_,g_byName,h_byName,_,g_same,h_same,_,g_twins,h_twins,⟨_,oS_goings,MS_sgoings⟩,⟨_,oR_spots,MR_spots⟩,⟨_,oR_metBy,MR_metBy⟩,IS,IR⟩ mkS oS_init hmS mkR oR_init hmR mkK oK_init hmK
theorem walk {l:PySem.W.OpenLaw} {q:Program} {loose:List Str} {XP:(Str->Option Value)->Heap->Prop} {YP:World->Heap->Prop} {d:DefRec} {K:Params->PySem.W.Frag} (hn:l.most=some 63) (hdf:d.params.defaults=[])
  (hY:∀ (w:World) (h:Heap),YP w h->(K w.params).In h)
  (F:∀ (w:World) (mg:Str->Option Value) (fa:Addr) (h:Heap),(K w.params).In h->h.Ns mainGlobals mg->mg d.name=some (.ref fa) ->
    ∃ fd:FuncData,(∀ (s:Shared) (u:Value),BindsTo s fd ⟨[u],[]⟩ [("_law_script",u)])∧∀ base:Heap,(K w.params).In base->base.Ns mainGlobals mg->FnOk l.prog w (K w.params) mg base CX0 23 fa fd ["_law_script"] (W2 (K w.params))) :
  PySem.W.WalkO q loose XP YP l.row.toRowW d [] (fun f vs=>PySem.call f vs):=
 L2.Wu (n:=63) (k:=23) (x:="_law_script") (CX:=fun _=>CX0) (sp:=fun w=>W2 (K w.params)) hn (by decide) hdf ⟨rfl,by decide,by decide⟩ hY F (fun _ _ a ns hl _ hS=>⟨a,ns,rfl,hS,hl,fun _=>rfl⟩) fun _ _ _ _ _ z=>z
end Lk
open PySem PySem.W PyProof.Rows
set_option maxRecDepth 100000 in
set_option maxHeartbeats 0 in
theorem PySem.Challenge.cw_leastasked_k04_refused_holds : PySem.Challenge.rw_leastasked_k04_refused.Holds := by
 w_on; o_law
 refine holds_open (q:=Lk.view) (loose:=["Row","Shelf"]) (Xt:=Lk.seenX) (XP:=XL Lk.view []) (Yf:=(kHook Lk.KK Lk.KA Lk.ka).obs) (Ya:=(kHook Lk.KK Lk.KA Lk.ka).val) (YP:=(kHook Lk.KK Lk.KA Lk.ka).says) (N:=7488) Lk.left (kHook Lk.KK Lk.KA Lk.ka).of (kHook Lk.KK Lk.KA Lk.ka).keeps (fun s e=>xl_of s (Bool.and_eq_true_iff.mp e).1) XL.keeps (by rfl) (by rfl) (by rfl) (fun s e=>recFacts_of (Bool.and_eq_true_iff.mp e).2) (by rfl) (by first | assumption | decide +kernel) (by decide +kernel) ⟨rfl,rfl,rfl,rfl,rfl,by decide +kernel⟩ ?hw ?hc
 case hw=>w_witness2
 case hc=>
 k_fill
 refine Lk.walk (l:=PySem.Challenge.rw_leastasked_k04_refused) rfl rfl (fun w h Y=>PySem.W.kIn_of (K:=Lk.KK) (as:=Lk.KA) (e:=Lk.ka) Y) ?F
 case F=>
  intro w mg fa h KX G hmg
  refine' Lk.kL KX G hmg ?_ ?_ ?_ ?_ ?_ ?_ ?_ ?_ ?_ ?_ ?_ ?_ ?_ ?_ ?_ ?_ ?_ ?_ ?_ ?_ ?_ ?_ ?_ ?_ ?_ ?_ ?_ ?_ ?_ ?_ ?_ ?_ ?_ ?_ ?_ ?_ ?_ ?_ ?_ ?_ ?_ ?_ ?_ ?_ ?_ ?_ ?_ ?_ ?_ ?_ ?_ ?_ ?_ ?_ ?_ ?_ ?_ ?_ ?_ ?_ ?_ ?_ ?_ ?_ ?_ ?_ ?_ ?_ ?_ ?_ ?_ ?_ ?_ ?_ ?_ ?_ ?_ ?_ ?_ ?_ ?_ ?_ ?_ ?_ ?_ ?_ ?_ ?_ ?_ ?_ ?_ ?_ ?_ ?_ ?_ ?_ ?_ ?_ ?_ ?_ ?_ ?_ ?_ ?_ ?_ ?_ ?_ ?_ ?_ ?_ ?_ ?_ ?_ ?_ ?_ ?_ ?_ ?_ ?_ ?_ ?_ ?_ ?_ ?_ ?_ ?_ ?_ ?_ ?_ ?_ ?_ ?_ ?_ ?_ ?_ ?_ ?_ ?_ ?_ ?_ ?_ ?_ ?_ ?_ ?_ ?_ ?_ ?_ ?_ ?_ ?_ ?_ ?_ ?_ ?_ ?_ ?_ ?_ ?_ ?_ ?_ ?_ ?_ ?_ ?_ ?_ ?_ ?_ ?_ ?_ ?_ ?_ ?_ ?_ ?_ ?_ ?_ ?_ ?_ ?_ ?_ ?_ ?_ ?_ ?_ ?_ ?_ ?_ ?_ ?_ ?_ ?_ ?_ ?_ ?_ ?_ ?_ ?_ ?_ ?_ ?_ ?_ ?_ ?_ ?_ ?_ ?_ ?_ ?_ ?_ ?_ ?_ ?_ ?_ ?_ ?_ ?_ ?_ ?_ ?_ ?_ ?_ ?_ ?_ ?_ ?_ ?_ ?_ ?_ ?_ ?_ ?_ ?_ ?_ ?_ ?_ ?_ ?_ ?_ ?_ ?_ ?_ ?_ ?_ ?_ ?_ ?_ ?_ ?_ ?_ ?_ ?_ ?_ ?_ ?_ ?_ ?_ ?_ ?_ ?_ ?_ ?_ ?_ ?_ ?_ ?_ ?_ ?_ ?_ ?_ ?_ ?_ ?_ ?_ ?_ ?_ ?_ ?_ ?_ ?_ ?_ ?_ ?_ ?_ ?_ ?_ ?_ ?_ ?_ ?_ ?_ ?_ ?_ ?_ ?_ ?_ ?_ ?_ ?_ ?_ ?_ ?_ ?_ ?_ ?_ ?_ ?_ ?_ ?_ ?_ ?_ ?_ ?_ ?_ ?_ ?_ ?_ ?_ ?_ ?_ ?_ ?_ ?_ ?_ ?_ ?_ ?_ ?_ ?_ ?_ ?_ ?_ ?_ ?_ ?_ ?_ ?_ ?_ ?_ ?_ ?_ ?_ ?_ ?_ ?_ ?_ ?_ ?_ ?_ ?_ ?_ ?_ ?_ ?_ ?_ ?_ ?_ ?_ ?_ ?_ ?_ ?_ ?_ ?_ ?_ ?_ ?_ ?_ ?_ ?_ ?_
  any_goals first
   | k_is
   | k_exc
   | exact rfl
   | exact fun s v=>.of_eq rfl
   | (refine' L2.dS ?l ?c ?k; (case l=>k_is); (case c=>k_is); (case k=>k_is))
   | (refine' L2.hW ?l ?c ?k ?h; (case l=>k_is); (case c=>k_is); (case k=>k_is); (case h=>first | (exact fun _ _ _ _ _ _ us hl=>match us,hl with | [_],_=>rfl) | (exact fun _ _ _ _ _ _ us hl=>match us,hl with | [_,_],_=>rfl) | (exact fun _ _ _ _ _ _ us hl=>match us,hl with | [_,_,_],_=>rfl) | (exact fun _ _ _ _ _ _ us hl=>match us,hl with | [_,_,_,_],_=>rfl) | (exact fun _ _ _ _ _ _ us hl=>match us,hl with | [_,_,_,_,_],_=>rfl) | (exact fun _ _ _ _ _ _ us hl=>match us,hl with | [_,_,_,_,_,_],_=>rfl) | (exact fun _ _ _ _ _ _ us hl=>match us,hl with | [_,_,_,_,_,_,_],_=>rfl) | (exact fun _ _ _ _ _ _ us hl=>match us,hl with | [_,_,_,_,_,_,_,_],_=>rfl)))
