import PyProof.Rows.All
import Wide.All
import OpenK.AllK
import Wide.FinOn
import Lean
import PyProof.EqAt
import PyProof.EqKinds
import PyProof.TupleCall
import PySem.Challenge.RW_leastasked_k08_whole_one_row
set_option Elab.async false
set_option linter.all false
set_option maxRecDepth 100000
namespace L2
open PySem
def inClass (s:Stmt) (j:Nat):Stmt:=match s with
 | .ClassDef _ _ _ body _ _ _ _ _ _ _=>body.getD j (.Pass ⟨0, 0, 0, 0⟩)
 | _=>.Pass ⟨0, 0, 0, 0⟩
def defArgs (s:Stmt):Arguments:=match s with
 | .FunctionDef _ a _ _ _ _ _ _ _ _=>a
 | _=>{ posonlyargs:=[], args:=[], vararg:=none, kwonlyargs:=[], kw_defaults:=[], kwarg:=none, defaults:=[] }
def defBody (s:Stmt):List Stmt:=match s with
 | .FunctionDef _ _ b _ _ _ _ _ _ _=>b
 | _=>[]
def defScope (s:Stmt):Scope:=match s with
 | .FunctionDef _ _ _ _ _ _ sc _ _ _=>sc
 | _=>{ kind:=.function, names:=[], isGenerator:=false, isCoroutine:=false }
end L2
namespace Lk
open PySem PySem.W L2
noncomputable section
def top (i:Nat):Stmt:=PySem.Challenge.pw_leastasked_k08_whole_one_row.main.body.getD i (.Pass ⟨0, 0, 0, 0⟩)
def en (P:Params) (k:String) (t:Nat) (v:Value):DictEntry:=⟨PyData.keyHash P (Str.ofString k), .str (Str.ofString k) t, v⟩
abbrev PO:=Params -> Obj
noncomputable def cO (n q:Str) (t:Nat) (L a b c d:Int) (r:Addr) (g:Bool) (r2:Addr) (i:Nat) (u v x y:Value):Obj:={ cls:=.type "code", data:=.fields #[.str n t, .str q (t + 1), .str "/claim/cut.py" (t + 2), .int L 0, .int a 0, .int b 0, .int c 0, .int d 0, .ref r, .bool g, .int 181 0, .ref r2, u, v, x, y, .int i 0, .int L 0, .str "/claim/cut.py" (i + 1)] }
noncomputable def cR (n q:Str) (t:Nat) (L a b c d:Int) (r:Addr) (i:Nat):Obj:=cO n q t L a b c d r true (r + 1) i .none (.ref (r + 2)) (.ref (r + 3)) (.ref (r + 4))
noncomputable def fO (n q:Str) (s:Stmt) (d:Value) (m:Str) (t:Nat) (c:Addr):Obj:={ cls:=.type "function", data:=.func { name:=n, qualname:=q, params:=defArgs s, body:=.stmts (defBody s), scope:=defScope s, globals:=3, closure:=[], defaults:=d, kwdefaults:=.none, pyModule:=.str m t, code:=.ref c } }
noncomputable def gO (n q:Str) (s:Stmt):Obj:={ cls:=.none, data:=.func { name:=n, qualname:=q, params:=defArgs s, body:=.stmts (defBody s), scope:=defScope s, globals:=0, closure:=[], defaults:=.none, kwdefaults:=.none } }
noncomputable def tO (xs:Array Value):Obj:={ cls:=.type "tuple", data:=.seq xs }
noncomputable def dO (es:Array DictEntry) (n:Nat):Obj:={ cls:=.type "dict", data:=.dict es n }
abbrev PT:=Params -> BT
noncomputable def Nn (o:PO) (l r:PT):PT:=fun P=>.node (o P) (l P) (r P)
noncomputable def Lf (o:PO):PT:=fun P=>.node (o P) .nil .nil
noncomputable def Ze:PT:=fun _=>.nil
def o_43:PO:=fun _=>tO #[]
def o_44:PO:=fun _=>{ cls:=.none, data:=.fields #[] }
def o_45:PO:=fun _=>cO "<module>" "<module>" 182 1 0 0 0 0 11 false 12 185 .none .none .none .none
def o_46:PO:=fun _=>{ cls:=.type "frame", slots:=#[some (.ref 13), some (.ref 3), some (.ref 3), none, some (.str "__main__" 164), none, some (.ref 0)] }
def o_86:PO:=fun P=>dO #[en P "__name__" 165 (.str "leastasked.errors" 194), en P "__doc__" 166 .none, en P "__package__" 167 .none, en P "__loader__" 168 (.builtin "__main__.__loader__#opaque"), en P "__spec__" 169 .none, en P "__annotations__" 170 (.ref 6), en P "__builtins__" 171 (.ref 4), en P "__file__" 173 (.str "/claim/cut.py" 172), en P "__cached__" 174 .none, en P "_wall" 193 (.ref 21), en P "ShelfError" 213 (.ref 31), en P "NoName" 229 (.ref 44), en P "NoNumber" 245 (.ref 56)] 13
def o_88:PO:=fun _=>{ cls:=.type "type", data:=.cls { name:="ShelfError", bases:=[.type "ValueError"], mro:=[.ref 31, .type "ValueError", .type "Exception", .type "BaseException", .type "object"], ns:=30, qualname:="ShelfError", subclasses:=[.ref 44, .ref 56] }, slots:=#[some (.ref 22), none, some (.str "ShelfError" 196), some (.str "ShelfError" 204), some (.builtin "ValueError.__new__"), some (.bool true)] }
def o_89:PO:=fun _=>tO #[.ref 31]
def o_59:PO:=fun _=>{ cls:=.type "builtin_function_or_method", data:=.fields #[.builtin "type.__prepare__", .type "type"] }
def o_97:PO:=fun P=>dO #[en P "__module__" 237 (.str "leastasked.errors" 194), en P "__firstlineno__" 241 (.int 9 240), en P "__static_attributes__" 242 (.ref 54), en P "__doc__" 243 .none] 2
def o_55:PO:=fun _=>gO "_wall" "_wall" (top 0)
def o_63:PO:=fun _=>cO "ShelfError" "ShelfError" 198 5 0 0 0 0 25 false 26 201 .none .none .none .none
def o_82:PO:=fun P=>dO #[en P "__module__" 221 (.str "leastasked.errors" 194), en P "__firstlineno__" 225 (.int 7 224), en P "__static_attributes__" 226 (.ref 42), en P "__doc__" 227 .none] 2
def o_53:PO:=fun _=>tO #[.str "k" 190]
def o_69:PO:=fun _=>{ cls:=.type "super", data:=.fields #[.ref 31, .ref 31, .ref 31] }
def o_91:PO:=fun P=>dO #[en P "__module__" 237 (.str "leastasked.errors" 194), en P "__qualname__" 239 (.str "NoNumber" 238), en P "__firstlineno__" 241 (.int 9 240), en P "__static_attributes__" 242 (.ref 54)] 4
def o_80:PO:=fun _=>{ cls:=.type "frame", slots:=#[some (.ref 40), some (.ref 3), some (.ref 37), none, some (.str "leastasked.errors" 194), none, some (.ref 0)] }
def o_99:PO:=fun _=>{ cls:=.type "super", data:=.fields #[.ref 56, .ref 56, .ref 56] }
def o_57:PO:=fun _=>fO "_wall" "_wall" (top 0) .none "__main__" 164 20
def o_76:PO:=fun P=>dO #[en P "__module__" 221 (.str "leastasked.errors" 194), en P "__qualname__" 223 (.str "NoName" 222), en P "__firstlineno__" 225 (.int 7 224), en P "__static_attributes__" 226 (.ref 42)] 4
def o_95:PO:=fun _=>{ cls:=.type "frame", slots:=#[some (.ref 52), some (.ref 3), some (.ref 49), none, some (.str "leastasked.errors" 194), none, some (.ref 0)] }
def o_84:PO:=fun _=>{ cls:=.type "super", data:=.fields #[.ref 44, .ref 44, .ref 44] }
def o_68:PO:=fun _=>{ cls:=.type "getset_descriptor", data:=.fields #[.str "__weakref__" 209, .ref 31, .builtin "ExceptionGroup.__weakref__", .none] }
def o_60:PO:=fun P=>dO #[en P "__module__" 203 (.str "leastasked.errors" 194), en P "__qualname__" 205 (.str "ShelfError" 204), en P "__firstlineno__" 207 (.int 5 206), en P "__static_attributes__" 208 (.ref 29)] 4
def o_79:PO:=fun _=>cO "NoName" "NoName" 216 7 0 0 0 0 38 false 39 219 .none .none .none .none
def o_98:PO:=fun _=>{ cls:=.type "type", data:=.cls { name:="NoNumber", bases:=[.ref 31], mro:=[.ref 56, .ref 31, .type "ValueError", .type "Exception", .type "BaseException", .type "object"], ns:=55, qualname:="NoNumber" }, slots:=#[some (.ref 47), none, some (.str "NoNumber" 230), some (.str "NoNumber" 238), some (.builtin "ValueError.__new__"), some (.bool true)] }
def o_87:PO:=fun _=>{ cls:=.none, data:=.fields #[.int 1 0, .int 0 0, .ref 20, .int 5 0, .int 0 0, .ref 27, .int 7 0, .int 0 0, .ref 40, .int 9 0, .int 0 0, .ref 52] }
def o_56:PO:=fun _=>cR "_wall" "_wall" 187 1 1 0 0 3 15 191
def o_94:PO:=fun _=>cO "NoNumber" "NoNumber" 232 9 0 0 0 0 50 false 51 235 .none .none .none .none
def o_64:PO:=fun _=>{ cls:=.type "frame", slots:=#[some (.ref 27), some (.ref 3), some (.ref 24), none, some (.str "leastasked.errors" 194), none, some (.ref 0)] }
def o_83:PO:=fun _=>{ cls:=.type "type", data:=.cls { name:="NoName", bases:=[.ref 31], mro:=[.ref 44, .ref 31, .type "ValueError", .type "Exception", .type "BaseException", .type "object"], ns:=43, qualname:="NoName" }, slots:=#[some (.ref 35), none, some (.str "NoName" 214), some (.str "NoName" 222), some (.builtin "ValueError.__new__"), some (.bool true)] }
def o_70:PO:=fun _=>{ cls:=.type "builtin_function_or_method", data:=.fields #[.builtin "object.__init_subclass__", .ref 31] }
def o_100:PO:=fun _=>{ cls:=.type "builtin_function_or_method", data:=.fields #[.builtin "object.__init_subclass__", .ref 56] }
def o_58:PO:=fun _=>tO #[.type "ValueError"]
def o_66:PO:=fun P=>dO #[en P "__module__" 203 (.str "leastasked.errors" 194), en P "__firstlineno__" 207 (.int 5 206), en P "__static_attributes__" 208 (.ref 29), en P "__weakref__" 210 (.ref 32), en P "__doc__" 211 .none] 3
def o_85:PO:=fun _=>{ cls:=.type "builtin_function_or_method", data:=.fields #[.builtin "object.__init_subclass__", .ref 44] }
def o_156:PO:=fun P=>dO #[en P "__name__" 165 (.str "leastasked.book" 337), en P "__doc__" 166 .none, en P "__package__" 167 .none, en P "__loader__" 168 (.builtin "__main__.__loader__#opaque"), en P "__spec__" 169 .none, en P "__annotations__" 170 (.ref 6), en P "__builtins__" 171 (.ref 4), en P "__file__" 173 (.str "/claim/cut.py" 172), en P "__cached__" 174 .none, en P "_wall" 193 (.ref 21), en P "ShelfError" 213 (.ref 31), en P "NoName" 229 (.ref 44), en P "NoNumber" 245 (.ref 56), en P "NoRule" 261 (.ref 68), en P "is_whole_within" 272 (.ref 77), en P "is_name" 278 (.ref 82), en P "check_name" 285 (.ref 89), en P "check_weight" 292 (.ref 96), en P "check_steps" 299 (.ref 103), en P "check_places" 306 (.ref 110), en P "check_rule" 314 (.ref 117), en P "ageings" 325 (.ref 124), en P "aged" 336 (.ref 131)] 23
def o_103:PO:=fun _=>{ cls:=.type "type", data:=.cls { name:="ShelfError", bases:=[.type "ValueError"], mro:=[.ref 31, .type "ValueError", .type "Exception", .type "BaseException", .type "object"], ns:=30, qualname:="ShelfError", subclasses:=[.ref 44, .ref 56, .ref 68] }, slots:=#[some (.ref 22), none, some (.str "ShelfError" 196), some (.str "ShelfError" 204), some (.builtin "ValueError.__new__"), some (.bool true)] }
def o_174:PO:=fun _=>tO #[.str "count" 329, .str "part" 330, .str "times" 331, .str "needed" 332, .str "step" 333]
def o_140:PO:=fun _=>cR "check_weight" "check_weight" 286 25 1 0 0 3 90 290
def o_148:PO:=fun _=>fO "check_steps" "check_steps" (top 11) .none "leastasked.checks" 262 102
def o_132:PO:=fun _=>gO "check_name" "check_name" (top 9)
def o_112:PO:=fun P=>dO #[en P "__module__" 253 (.str "leastasked.errors" 194), en P "__firstlineno__" 257 (.int 11 256), en P "__static_attributes__" 258 (.ref 66), en P "__doc__" 259 .none] 2
def o_178:PO:=fun _=>fO "aged" "aged" (top 16) .none "leastasked.rules" 315 130
def o_144:PO:=fun _=>tO #[.str "steps" 296]
def o_162:PO:=fun _=>gO "check_rule" "check_rule" (top 13)
def o_120:PO:=fun _=>gO "is_whole_within" "is_whole_within" (top 7)
def o_170:PO:=fun _=>cR "ageings" "ageings" 317 40 3 0 0 3 118 323
def o_110:PO:=fun _=>{ cls:=.type "frame", slots:=#[some (.ref 64), some (.ref 3), some (.ref 61), none, some (.str "leastasked.errors" 194), none, some (.ref 0)] }
def o_176:PO:=fun _=>gO "aged" "aged" (top 16)
def o_126:PO:=fun _=>cO "is_name" "is_name" 273 18 1 0 0 3 78 true 79 276 .none .none .none (.ref 80)
def o_160:PO:=fun _=>tO #[.str "span" 310, .str "part" 311]
def o_118:PO:=fun _=>tO #[.str "value" 267, .str "least" 268, .str "most" 269]
def o_134:PO:=fun _=>fO "check_name" "check_name" (top 9) .none "leastasked.checks" 262 88
def o_114:PO:=fun _=>{ cls:=.type "super", data:=.fields #[.ref 68, .ref 68, .ref 68] }
def o_146:PO:=fun _=>gO "check_steps" "check_steps" (top 11)
def o_130:PO:=fun _=>tO #[.str "name" 282]
def o_164:PO:=fun _=>fO "check_rule" "check_rule" (top 13) .none "leastasked.checks" 262 116
def o_122:PO:=fun _=>fO "is_whole_within" "is_whole_within" (top 7) .none "leastasked.checks" 262 76
def o_154:PO:=fun _=>cR "check_places" "check_places" 300 31 1 0 0 3 104 304
def o_106:PO:=fun P=>dO #[en P "__module__" 253 (.str "leastasked.errors" 194), en P "__qualname__" 255 (.str "NoRule" 254), en P "__firstlineno__" 257 (.int 11 256), en P "__static_attributes__" 258 (.ref 66)] 4
def o_109:PO:=fun _=>cO "NoRule" "NoRule" 248 11 0 0 0 0 62 false 63 251 .none .none .none .none
def o_141:PO:=fun _=>fO "check_weight" "check_weight" (top 10) .none "leastasked.checks" 262 95
def o_125:PO:=fun _=>gO "is_name" "is_name" (top 8)
def o_133:PO:=fun _=>cR "check_name" "check_name" 279 22 1 0 0 3 83 283
def o_167:PO:=fun _=>tO #[.str "span" 320, .str "since" 321, .str "upto" 322]
def o_157:PO:=fun _=>{ cls:=.none, data:=.fields #[.int 1 0, .int 0 0, .ref 20, .int 5 0, .int 0 0, .ref 27, .int 7 0, .int 0 0, .ref 40, .int 9 0, .int 0 0, .ref 52, .int 11 0, .int 0 0, .ref 64, .int 14 0, .int 0 0, .ref 76, .int 18 0, .int 0 0, .ref 81, .int 22 0, .int 0 0, .ref 88, .int 25 0, .int 0 0, .ref 95, .int 28 0, .int 0 0, .ref 102, .int 31 0, .int 0 0, .ref 109, .int 34 0, .int 0 0, .ref 116, .int 40 0, .int 0 0, .ref 123, .int 42 0, .int 0 0, .ref 130] }
def o_113:PO:=fun _=>{ cls:=.type "type", data:=.cls { name:="NoRule", bases:=[.ref 31], mro:=[.ref 68, .ref 31, .type "ValueError", .type "Exception", .type "BaseException", .type "object"], ns:=67, qualname:="NoRule" }, slots:=#[some (.ref 59), none, some (.str "NoRule" 246), some (.str "NoRule" 254), some (.builtin "ValueError.__new__"), some (.bool true)] }
def o_163:PO:=fun _=>cR "check_rule" "check_rule" 307 34 2 0 0 3 111 312
def o_121:PO:=fun _=>cR "is_whole_within" "is_whole_within" 264 14 3 0 0 3 71 270
def o_153:PO:=fun _=>gO "check_places" "check_places" (top 12)
def o_137:PO:=fun _=>tO #[.str "weight" 289]
def o_171:PO:=fun _=>fO "ageings" "ageings" (top 15) .none "leastasked.rules" 315 123
def o_177:PO:=fun _=>cR "aged" "aged" 326 42 3 0 0 3 125 334
def o_127:PO:=fun _=>fO "is_name" "is_name" (top 8) .none "leastasked.checks" 262 81
def o_151:PO:=fun _=>tO #[.str "places" 303]
def o_169:PO:=fun _=>gO "ageings" "ageings" (top 15)
def o_115:PO:=fun _=>{ cls:=.type "builtin_function_or_method", data:=.fields #[.builtin "object.__init_subclass__", .ref 68] }
def o_147:PO:=fun _=>cR "check_steps" "check_steps" 293 28 1 0 0 3 97 297
def o_155:PO:=fun _=>fO "check_places" "check_places" (top 12) .none "leastasked.checks" 262 109
def o_139:PO:=fun _=>gO "check_weight" "check_weight" (top 10)
def o_404:PO:=fun P=>dO #[en P "__name__" 165 (.str "leastasked.row" 510), en P "__doc__" 166 .none, en P "__package__" 167 .none, en P "__loader__" 168 (.builtin "__main__.__loader__#opaque"), en P "__spec__" 169 .none, en P "__annotations__" 170 (.ref 6), en P "__builtins__" 171 (.ref 4), en P "__file__" 173 (.str "/claim/cut.py" 172), en P "__cached__" 174 .none, en P "_wall" 193 (.ref 21), en P "ShelfError" 213 (.ref 31), en P "NoName" 229 (.ref 44), en P "NoNumber" 245 (.ref 56), en P "NoRule" 261 (.ref 68), en P "is_whole_within" 272 (.ref 77), en P "is_name" 278 (.ref 82), en P "check_name" 285 (.ref 89), en P "check_weight" 292 (.ref 96), en P "check_steps" 299 (.ref 103), en P "check_places" 306 (.ref 110), en P "check_rule" 314 (.ref 117), en P "ageings" 325 (.ref 124), en P "aged" 336 (.ref 131), en P "Book" 509 (.ref 261)] 24
def o_240:PO:=fun _=>tO #[.str "self" 412, .str "name" 413]
def o_208:PO:=fun _=>cR "rest" "Book.rest" 371 65 2 0 0 3 154 376
def o_272:PO:=fun _=>fO "begin_ask" "Book.begin_ask" (inClass (top 18) 11) .none "leastasked.book" 337 222
def o_192:PO:=fun _=>gO "__init__" "Book.__init__" (inClass (top 18) 0)
def o_256:PO:=fun _=>gO "in_order" "Book.in_order" (inClass (top 18) 9)
def o_312:PO:=fun _=>{ cls:=.type "getset_descriptor", data:=.fields #[.str "__weakref__" 505, .ref 261, .builtin "ExceptionGroup.__weakref__", .none] }
def o_216:PO:=fun _=>fO "drop" "Book.drop" (inClass (top 18) 3) .none "leastasked.book" 337 166
def o_200:PO:=fun _=>gO "ask" "Book.ask" (inClass (top 18) 1)
def o_264:PO:=fun _=>cR "strength" "Book.strength" 432 94 2 0 0 3 210 437
def o_296:PO:=fun _=>tO #[.str "self" 478, .str "times" 479, .str "faded" 480, .str "name" 481, .str "count" 482, .str "last" 483]
def o_308:PO:=fun _=>tO #[.str "counts" 496, .str "deeds" 497, .str "lasts" 498, .str "part" 499, .str "span" 500, .str "time" 501]
def o_244:PO:=fun _=>fO "last_of" "Book.last_of" (inClass (top 18) 7) .none "leastasked.book" 337 194
def o_212:PO:=fun _=>tO #[.str "self" 382, .str "name" 383]
def o_228:PO:=fun _=>gO "deeds_done" "Book.deeds_done" (inClass (top 18) 5)
def o_292:PO:=fun _=>cR "pass_time" "Book.pass_time" 466 111 2 0 0 3 238 472
def o_284:PO:=fun _=>gO "begin_drop" "Book.begin_drop" (inClass (top 18) 13)
def o_268:PO:=fun _=>tO #[.str "self" 443, .str "name" 444, .str "weight" 445]
def o_236:PO:=fun _=>cR "count_of" "Book.count_of" 401 80 2 0 0 3 182 406
def o_300:PO:=fun _=>fO "age_counts" "Book.age_counts" (inClass (top 18) 15) .none "leastasked.book" 337 250
def o_306:PO:=fun _=>cR "fade" "Book.fade" 487 131 3 0 0 3 252 493
def o_242:PO:=fun _=>gO "last_of" "Book.last_of" (inClass (top 18) 7)
def o_194:PO:=fun _=>fO "__init__" "Book.__init__" (inClass (top 18) 0) .none "leastasked.book" 337 144
def o_258:PO:=fun _=>fO "in_order" "Book.in_order" (inClass (top 18) 9) .none "leastasked.book" 337 208
def o_226:PO:=fun _=>tO #[.str "self" 397]
def o_186:PO:=fun _=>cO "Book" "Book" 341 48 0 0 0 0 135 false 136 344 .none .none .none .none
def o_314:PO:=fun _=>{ cls:=.type "builtin_function_or_method", data:=.fields #[.builtin "object.__init_subclass__", .ref 261] }
def o_250:PO:=fun _=>cR "names" "Book.names" 417 88 1 0 0 3 196 421
def o_282:PO:=fun _=>tO #[.str "self" 461, .str "name" 462]
def o_202:PO:=fun _=>fO "ask" "Book.ask" (inClass (top 18) 1) (.ref 146) "leastasked.book" 337 152
def o_298:PO:=fun _=>gO "age_counts" "Book.age_counts" (inClass (top 18) 15)
def o_310:PO:=fun _=>{ cls:=.type "type", data:=.cls { name:="Book", bases:=[.type "object"], mro:=[.ref 261, .type "object"], ns:=260, qualname:="Book" }, slots:=#[none, none, some (.str "Book" 339), some (.str "Book" 347), some (.builtin "object.__new__"), some (.bool true)] }
def o_214:PO:=fun _=>gO "drop" "Book.drop" (inClass (top 18) 3)
def o_278:PO:=fun _=>cR "grow" "Book.grow" 449 103 3 0 0 3 224 455
def o_198:PO:=fun _=>tO #[.str "self" 364, .str "name" 365, .str "weight" 366, .str "known" 367]
def o_230:PO:=fun _=>fO "deeds_done" "Book.deeds_done" (inClass (top 18) 5) .none "leastasked.book" 337 180
def o_190:PO:=fun _=>tO #[.str "self" 354, .str "span" 355, .str "part" 356]
def o_254:PO:=fun _=>tO #[.str "self" 427, .str "names" 428]
def o_222:PO:=fun _=>cR "time_now" "Book.time_now" 387 74 1 0 0 3 168 391
def o_286:PO:=fun _=>fO "begin_drop" "Book.begin_drop" (inClass (top 18) 13) .none "leastasked.book" 337 236
def o_270:PO:=fun _=>gO "begin_ask" "Book.begin_ask" (inClass (top 18) 11)
def o_305:PO:=fun _=>gO "fade" "Book.fade" (inClass (top 18) 16)
def o_209:PO:=fun _=>fO "rest" "Book.rest" (inClass (top 18) 2) .none "leastasked.book" 337 159
def o_193:PO:=fun _=>cR "__init__" "Book.__init__" 351 50 3 0 0 3 139 357
def o_257:PO:=fun _=>cR "in_order" "Book.in_order" 424 91 2 0 0 3 203 429
def o_289:PO:=fun _=>tO #[.str "self" 469, .str "steps" 470, .str "times" 471]
def o_185:PO:=fun _=>{ cls:=.none, data:=.fields #[.int 50 0, .int 4 0, .ref 144, .int 59 0, .int 4 0, .ref 152, .int 65 0, .int 4 0, .ref 159, .int 70 0, .int 4 0, .ref 166, .int 74 0, .int 4 0, .ref 173, .int 77 0, .int 4 0, .ref 180, .int 80 0, .int 4 0, .ref 187, .int 84 0, .int 4 0, .ref 194, .int 88 0, .int 4 0, .ref 201, .int 91 0, .int 4 0, .ref 208, .int 94 0, .int 4 0, .ref 215, .int 97 0, .int 4 0, .ref 222, .int 103 0, .int 4 0, .ref 229, .int 107 0, .int 4 0, .ref 236, .int 111 0, .int 4 0, .ref 243, .int 118 0, .int 4 0, .ref 250, .int 131 0, .int 4 0, .ref 257] }
def o_313:PO:=fun _=>{ cls:=.type "super", data:=.fields #[.ref 261, .ref 261, .ref 261] }
def o_249:PO:=fun _=>gO "names" "Book.names" (inClass (top 18) 8)
def o_201:PO:=fun _=>cR "ask" "Book.ask" 361 59 3 0 0 3 147 368
def o_265:PO:=fun _=>fO "strength" "Book.strength" (inClass (top 18) 10) .none "leastasked.book" 337 215
def o_233:PO:=fun _=>tO #[.str "self" 404, .str "name" 405]
def o_180:PO:=fun _=>{ cls:=.none, data:=.fields #[.int 1 0, .int 0 0, .ref 20, .int 5 0, .int 0 0, .ref 27, .int 7 0, .int 0 0, .ref 40, .int 9 0, .int 0 0, .ref 52, .int 11 0, .int 0 0, .ref 64, .int 14 0, .int 0 0, .ref 76, .int 18 0, .int 0 0, .ref 81, .int 22 0, .int 0 0, .ref 88, .int 25 0, .int 0 0, .ref 95, .int 28 0, .int 0 0, .ref 102, .int 31 0, .int 0 0, .ref 109, .int 34 0, .int 0 0, .ref 116, .int 40 0, .int 0 0, .ref 123, .int 42 0, .int 0 0, .ref 130, .int 48 0, .int 0 0, .ref 137] }
def o_309:PO:=fun P=>dO #[en P "__module__" 346 (.str "leastasked.book" 337), en P "__firstlineno__" 350 (.int 48 349), en P "__init__" 359 (.ref 145), en P "ask" 370 (.ref 153), en P "rest" 378 (.ref 160), en P "drop" 386 (.ref 167), en P "time_now" 393 (.ref 174), en P "deeds_done" 400 (.ref 181), en P "count_of" 408 (.ref 188), en P "last_of" 416 (.ref 195), en P "names" 423 (.ref 202), en P "in_order" 431 (.ref 209), en P "strength" 439 (.ref 216), en P "begin_ask" 448 (.ref 223), en P "grow" 457 (.ref 230), en P "begin_drop" 465 (.ref 237), en P "pass_time" 474 (.ref 244), en P "age_counts" 486 (.ref 251), en P "fade" 495 (.ref 258), en P "__static_attributes__" 502 (.ref 259), en P "__dict__" 504 (.ref 262), en P "__weakref__" 506 (.ref 263), en P "__doc__" 507 .none] 4
def o_277:PO:=fun _=>gO "grow" "Book.grow" (inClass (top 18) 12)
def o_261:PO:=fun _=>tO #[.str "self" 435, .str "name" 436]
def o_229:PO:=fun _=>cR "deeds_done" "Book.deeds_done" 394 77 1 0 0 3 175 398
def o_293:PO:=fun _=>fO "pass_time" "Book.pass_time" (inClass (top 18) 14) .none "leastasked.book" 337 243
def o_221:PO:=fun _=>gO "time_now" "Book.time_now" (inClass (top 18) 4)
def o_285:PO:=fun _=>cR "begin_drop" "Book.begin_drop" 458 107 2 0 0 3 231 463
def o_205:PO:=fun _=>tO #[.str "self" 374, .str "steps" 375]
def o_237:PO:=fun _=>fO "count_of" "Book.count_of" (inClass (top 18) 6) .none "leastasked.book" 337 187
def o_307:PO:=fun _=>fO "fade" "Book.fade" (inClass (top 18) 16) .none "leastasked.book" 337 257
def o_243:PO:=fun _=>cR "last_of" "Book.last_of" 409 84 2 0 0 3 189 414
def o_275:PO:=fun _=>tO #[.str "self" 452, .str "name" 453, .str "weight" 454]
def o_195:PO:=fun _=>tO #[.int 1 360]
def o_291:PO:=fun _=>gO "pass_time" "Book.pass_time" (inClass (top 18) 14)
def o_187:PO:=fun _=>{ cls:=.type "frame", slots:=#[some (.ref 137), some (.ref 3), some (.ref 134), none, some (.str "leastasked.book" 337), none, some (.ref 0)] }
def o_251:PO:=fun _=>fO "names" "Book.names" (inClass (top 18) 8) .none "leastasked.book" 337 201
def o_219:PO:=fun _=>tO #[.str "self" 390]
def o_235:PO:=fun _=>gO "count_of" "Book.count_of" (inClass (top 18) 6)
def o_299:PO:=fun _=>cR "age_counts" "Book.age_counts" 475 118 2 0 0 3 245 484
def o_183:PO:=fun P=>dO #[en P "__module__" 346 (.str "leastasked.book" 337), en P "__qualname__" 348 (.str "Book" 347), en P "__firstlineno__" 350 (.int 48 349), en P "__init__" 359 (.ref 145), en P "ask" 370 (.ref 153), en P "rest" 378 (.ref 160), en P "drop" 386 (.ref 167), en P "time_now" 393 (.ref 174), en P "deeds_done" 400 (.ref 181), en P "count_of" 408 (.ref 188), en P "last_of" 416 (.ref 195), en P "names" 423 (.ref 202), en P "in_order" 431 (.ref 209), en P "strength" 439 (.ref 216), en P "begin_ask" 448 (.ref 223), en P "grow" 457 (.ref 230), en P "begin_drop" 465 (.ref 237), en P "pass_time" 474 (.ref 244), en P "age_counts" 486 (.ref 251), en P "fade" 495 (.ref 258), en P "__static_attributes__" 502 (.ref 259)] 21
def o_311:PO:=fun _=>{ cls:=.type "getset_descriptor", data:=.fields #[.str "__dict__" 503, .ref 261, .builtin "function.__dict__", .builtin "function.__dict__#set"] }
def o_247:PO:=fun _=>tO #[.str "self" 420]
def o_215:PO:=fun _=>cR "drop" "Book.drop" 379 70 2 0 0 3 161 384
def o_279:PO:=fun _=>fO "grow" "Book.grow" (inClass (top 18) 12) .none "leastasked.book" 337 229
def o_263:PO:=fun _=>gO "strength" "Book.strength" (inClass (top 18) 10)
def o_223:PO:=fun _=>fO "time_now" "Book.time_now" (inClass (top 18) 4) .none "leastasked.book" 337 173
def o_207:PO:=fun _=>gO "rest" "Book.rest" (inClass (top 18) 2)
def o_271:PO:=fun _=>cR "begin_ask" "Book.begin_ask" 440 97 3 0 0 3 217 446
def o_303:PO:=fun _=>tO #[.str "self" 490, .str "name" 491, .str "last" 492]
def o_598:PO:=fun P=>dO #[en P "__name__" 165 (.str "leastasked.shelf" 640), en P "__doc__" 166 .none, en P "__package__" 167 .none, en P "__loader__" 168 (.builtin "__main__.__loader__#opaque"), en P "__spec__" 169 .none, en P "__annotations__" 170 (.ref 6), en P "__builtins__" 171 (.ref 4), en P "__file__" 173 (.str "/claim/cut.py" 172), en P "__cached__" 174 .none, en P "_wall" 193 (.ref 21), en P "ShelfError" 213 (.ref 31), en P "NoName" 229 (.ref 44), en P "NoNumber" 245 (.ref 56), en P "NoRule" 261 (.ref 68), en P "is_whole_within" 272 (.ref 77), en P "is_name" 278 (.ref 82), en P "check_name" 285 (.ref 89), en P "check_weight" 292 (.ref 96), en P "check_steps" 299 (.ref 103), en P "check_places" 306 (.ref 110), en P "check_rule" 314 (.ref 117), en P "ageings" 325 (.ref 124), en P "aged" 336 (.ref 131), en P "Book" 509 (.ref 261), en P "Row" 639 (.ref 365)] 25
def o_430:PO:=fun _=>fO "ask" "Row.ask" (inClass (top 20) 1) (.ref 280) "leastasked.row" 510 286
def o_494:PO:=fun _=>tO #[.str "self" 616, .str "name" 617, .str "coming" 618, .str "at" 619, .str "there" 620]
def o_414:PO:=fun _=>cO "Row" "Row" 514 134 0 0 0 0 269 false 270 517 .none .none .none .none
def o_510:PO:=fun _=>{ cls:=.type "builtin_function_or_method", data:=.fields #[.builtin "object.__init_subclass__", .ref 365] }
def o_470:PO:=fun _=>gO "enough" "Row.enough" (inClass (top 20) 7)
def o_422:PO:=fun _=>fO "__init__" "Row.__init__" (inClass (top 20) 0) .none "leastasked.row" 510 278
def o_454:PO:=fun _=>tO #[.str "self" 570, .str "places" 571]
def o_498:PO:=fun _=>fO "bring_in" "Row.bring_in" (inClass (top 20) 11) .none "leastasked.row" 510 354
def o_418:PO:=fun _=>tO #[.str "self" 527, .str "span" 528, .str "part" 529]
def o_482:PO:=fun _=>gO "spot_of" "Row.spot_of" (inClass (top 20) 9)
def o_450:PO:=fun _=>cR "spots" "Row.spots" 560 162 1 0 0 3 302 564
def o_442:PO:=fun _=>gO "names" "Row.names" (inClass (top 20) 3)
def o_506:PO:=fun _=>tO #[.str "line" 634, .str "met_at" 635]
def o_426:PO:=fun _=>tO #[.str "self" 537, .str "name" 538, .str "weight" 539, .str "spot" 540]
def o_490:PO:=fun _=>cR "leave" "Row.leave" 605 183 2 0 0 3 342 610
def o_458:PO:=fun _=>fO "names_at" "Row.names_at" (inClass (top 20) 5) .none "leastasked.row" 510 314
def o_464:PO:=fun _=>cR "met_by" "Row.met_by" 575 169 2 0 0 3 316 580
def o_496:PO:=fun _=>gO "bring_in" "Row.bring_in" (inClass (top 20) 11)
def o_480:PO:=fun _=>tO #[.str "self" 600, .str "name" 601]
def o_472:PO:=fun _=>fO "enough" "Row.enough" (inClass (top 20) 7) .none "leastasked.row" 510 328
def o_440:PO:=fun _=>tO #[.str "self" 556]
def o_504:PO:=fun _=>cR "fade" "Row.fade" 624 202 3 0 0 3 356 631
def o_456:PO:=fun _=>gO "names_at" "Row.names_at" (inClass (top 20) 5)
def o_408:PO:=fun _=>{ cls:=.type "type", data:=.cls { name:="Book", bases:=[.type "object"], mro:=[.ref 261, .type "object"], ns:=260, qualname:="Book", subclasses:=[.ref 365] }, slots:=#[none, none, some (.str "Book" 339), some (.str "Book" 347), some (.builtin "object.__new__"), some (.bool true)] }
def o_468:PO:=fun _=>tO #[.str "self" 586, .str "many" 587]
def o_436:PO:=fun _=>cR "drop" "Row.drop" 544 151 2 0 0 3 288 550
def o_420:PO:=fun _=>gO "__init__" "Row.__init__" (inClass (top 20) 0)
def o_484:PO:=fun _=>fO "spot_of" "Row.spot_of" (inClass (top 20) 9) .none "leastasked.row" 510 340
def o_476:PO:=fun _=>cO "names_on" "Row.names_on" 591 175 2 0 0 3 330 true 331 594 .none .none .none (.ref 332)
def o_444:PO:=fun _=>fO "names" "Row.names" (inClass (top 20) 3) .none "leastasked.row" 510 300
def o_508:PO:=fun _=>{ cls:=.type "type", data:=.cls { name:="Row", bases:=[.ref 261], mro:=[.ref 365, .ref 261, .type "object"], ns:=364, qualname:="Row" }, slots:=#[some (.ref 266), none, some (.str "Row" 512), some (.str "Row" 520), some (.builtin "object.__new__"), some (.bool true)] }
def o_428:PO:=fun _=>gO "ask" "Row.ask" (inClass (top 20) 1)
def o_463:PO:=fun _=>gO "met_by" "Row.met_by" (inClass (top 20) 6)
def o_415:PO:=fun _=>{ cls:=.type "frame", slots:=#[some (.ref 271), some (.ref 3), some (.ref 268), none, some (.str "leastasked.row" 510), none, some (.ref 0)] }
def o_447:PO:=fun _=>tO #[.str "self" 563]
def o_471:PO:=fun _=>cR "enough" "Row.enough" 583 172 2 0 0 3 323 588
def o_503:PO:=fun _=>gO "fade" "Row.fade" (inClass (top 20) 12)
def o_423:PO:=fun _=>tO #[.int 1 533]
def o_487:PO:=fun _=>tO #[.str "self" 608, .str "spot" 609]
def o_407:PO:=fun _=>{ cls:=.none, data:=.fields #[.int 1 0, .int 0 0, .ref 20, .int 5 0, .int 0 0, .ref 27, .int 7 0, .int 0 0, .ref 40, .int 9 0, .int 0 0, .ref 52, .int 11 0, .int 0 0, .ref 64, .int 14 0, .int 0 0, .ref 76, .int 18 0, .int 0 0, .ref 81, .int 22 0, .int 0 0, .ref 88, .int 25 0, .int 0 0, .ref 95, .int 28 0, .int 0 0, .ref 102, .int 31 0, .int 0 0, .ref 109, .int 34 0, .int 0 0, .ref 116, .int 40 0, .int 0 0, .ref 123, .int 42 0, .int 0 0, .ref 130, .int 48 0, .int 0 0, .ref 137, .int 134 0, .int 0 0, .ref 271] }
def o_435:PO:=fun _=>gO "drop" "Row.drop" (inClass (top 20) 2)
def o_483:PO:=fun _=>cR "spot_of" "Row.spot_of" 597 178 2 0 0 3 335 602
def o_451:PO:=fun _=>fO "spots" "Row.spots" (inClass (top 20) 4) .none "leastasked.row" 510 307
def o_411:PO:=fun P=>dO #[en P "__module__" 519 (.str "leastasked.row" 510), en P "__qualname__" 521 (.str "Row" 520), en P "__firstlineno__" 523 (.int 134 522), en P "__init__" 532 (.ref 279), en P "ask" 543 (.ref 287), en P "drop" 552 (.ref 294), en P "names" 559 (.ref 301), en P "spots" 566 (.ref 308), en P "names_at" 574 (.ref 315), en P "met_by" 582 (.ref 322), en P "enough" 590 (.ref 329), en P "names_on" 596 (.ref 334), en P "spot_of" 604 (.ref 341), en P "leave" 612 (.ref 348), en P "bring_in" 623 (.ref 355), en P "fade" 633 (.ref 362), en P "__static_attributes__" 636 (.ref 363)] 17
def o_475:PO:=fun _=>gO "names_on" "Row.names_on" (inClass (top 20) 8)
def o_443:PO:=fun _=>cR "names" "Row.names" 553 159 1 0 0 3 295 557
def o_507:PO:=fun P=>dO #[en P "__module__" 519 (.str "leastasked.row" 510), en P "__firstlineno__" 523 (.int 134 522), en P "__init__" 532 (.ref 279), en P "ask" 543 (.ref 287), en P "drop" 552 (.ref 294), en P "names" 559 (.ref 301), en P "spots" 566 (.ref 308), en P "names_at" 574 (.ref 315), en P "met_by" 582 (.ref 322), en P "enough" 590 (.ref 329), en P "names_on" 596 (.ref 334), en P "spot_of" 604 (.ref 341), en P "leave" 612 (.ref 348), en P "bring_in" 623 (.ref 355), en P "fade" 633 (.ref 362), en P "__static_attributes__" 636 (.ref 363), en P "__doc__" 637 .none] 2
def o_491:PO:=fun _=>fO "leave" "Row.leave" (inClass (top 20) 10) .none "leastasked.row" 510 347
def o_465:PO:=fun _=>fO "met_by" "Row.met_by" (inClass (top 20) 6) .none "leastasked.row" 510 321
def o_433:PO:=fun _=>tO #[.str "self" 547, .str "name" 548, .str "spot" 549]
def o_497:PO:=fun _=>cR "bring_in" "Row.bring_in" 613 188 2 0 0 3 349 621
def o_449:PO:=fun _=>gO "spots" "Row.spots" (inClass (top 20) 4)
def o_409:PO:=fun _=>tO #[.ref 261]
def o_505:PO:=fun _=>fO "fade" "Row.fade" (inClass (top 20) 12) .none "leastasked.row" 510 361
def o_489:PO:=fun _=>gO "leave" "Row.leave" (inClass (top 20) 10)
def o_457:PO:=fun _=>cR "names_at" "Row.names_at" 567 165 2 0 0 3 309 572
def o_437:PO:=fun _=>fO "drop" "Row.drop" (inClass (top 20) 2) .none "leastasked.row" 510 293
def o_501:PO:=fun _=>tO #[.str "self" 627, .str "name" 628, .str "last" 629, .str "spot" 630]
def o_421:PO:=fun _=>cR "__init__" "Row.__init__" 524 136 3 0 0 3 273 530
def o_413:PO:=fun _=>{ cls:=.none, data:=.fields #[.int 136 0, .int 4 0, .ref 278, .int 141 0, .int 4 0, .ref 286, .int 151 0, .int 4 0, .ref 293, .int 159 0, .int 4 0, .ref 300, .int 162 0, .int 4 0, .ref 307, .int 165 0, .int 4 0, .ref 314, .int 169 0, .int 4 0, .ref 321, .int 172 0, .int 4 0, .ref 328, .int 175 0, .int 4 0, .ref 333, .int 178 0, .int 4 0, .ref 340, .int 183 0, .int 4 0, .ref 347, .int 188 0, .int 4 0, .ref 354, .int 202 0, .int 4 0, .ref 361] }
def o_477:PO:=fun _=>fO "names_on" "Row.names_on" (inClass (top 20) 8) .none "leastasked.row" 510 333
def o_509:PO:=fun _=>{ cls:=.type "super", data:=.fields #[.ref 365, .ref 365, .ref 365] }
def o_429:PO:=fun _=>cR "ask" "Row.ask" 534 141 3 0 0 3 281 541
def o_461:PO:=fun _=>tO #[.str "self" 578, .str "places" 579]
def o_766:PO:=fun P=>dO #[en P "__name__" 165 (.str "law_leastasked_k08_whole_one_row" 742), en P "__doc__" 166 .none, en P "__package__" 167 .none, en P "__loader__" 168 (.builtin "__main__.__loader__#opaque"), en P "__spec__" 169 .none, en P "__annotations__" 170 (.ref 6), en P "__builtins__" 171 (.ref 4), en P "__file__" 173 (.str "/claim/cut.py" 172), en P "__cached__" 174 .none, en P "_wall" 193 (.ref 21), en P "ShelfError" 213 (.ref 31), en P "NoName" 229 (.ref 44), en P "NoNumber" 245 (.ref 56), en P "NoRule" 261 (.ref 68), en P "is_whole_within" 272 (.ref 77), en P "is_name" 278 (.ref 82), en P "check_name" 285 (.ref 89), en P "check_weight" 292 (.ref 96), en P "check_steps" 299 (.ref 103), en P "check_places" 306 (.ref 110), en P "check_rule" 314 (.ref 117), en P "ageings" 325 (.ref 124), en P "aged" 336 (.ref 131), en P "Book" 509 (.ref 261), en P "Row" 639 (.ref 365), en P "Shelf" 741 (.ref 441), en P "_law_cell_at" 751 (.ref 450), en P "_law_whole" 758 (.ref 457), en P "_law_sign" 766 (.ref 464), en P "_law_names" 772 (.ref 469), en P "_law_many" 779 (.ref 476), en P "_law_span" 786 (.ref 483), en P "_law_part" 793 (.ref 490), en P "_law_deed" 806 (.ref 497), en P "_law_do" 814 (.ref 504), en P "_law_depth_fits" 826 (.ref 511), en P "_law_answers" 832 (.ref 516), en P "_law_spots_fit" 838 (.ref 521), en P "_law_all_fit" 851 (.ref 528), en P "_law_like_book" 861 (.ref 535), en P "law" 867 (.ref 540)] 41
def o_748:PO:=fun _=>fO "_law_depth_fits" "_law_depth_fits" (top 33) .none "law_leastasked_k08_whole_one_row" 742 510
def o_650:PO:=fun _=>gO "goings" "Shelf.goings" (inClass (top 22) 5)
def o_716:PO:=fun _=>tO #[.str "_law_cell" 783]
def o_764:PO:=fun _=>cR "_law_all_fit" "_law_all_fit" 839 327 4 0 0 3 522 849
def o_634:PO:=fun _=>tO #[.str "self" 687]
def o_700:PO:=fun _=>cR "_law_sign" "_law_sign" 759 260 1 0 0 3 458 764
def o_666:PO:=fun _=>fO "take_off" "Shelf.take_off" (inClass (top 22) 7) .none "leastasked.shelf" 640 430
def o_732:PO:=fun _=>gO "_law_deed" "_law_deed" (top 31)
def o_756:PO:=fun _=>gO "_law_spots_fit" "_law_spots_fit" (top 35)
def o_692:PO:=fun _=>gO "_law_whole" "_law_whole" (top 25)
def o_658:PO:=fun _=>cR "take_in" "Shelf.take_in" 706 240 2 0 0 3 418 712
def o_774:PO:=fun _=>fO "_law_like_book" "_law_like_book" (top 37) .none "law_leastasked_k08_whole_one_row" 742 534
def o_674:PO:=fun _=>tO #[.str "gone" 735, .str "places" 736, .str "standing" 737]
def o_740:PO:=fun _=>cR "_law_do" "_law_do" 807 298 2 0 0 3 498 812
def o_752:PO:=fun _=>cO "_law_answers" "_law_answers" 827 314 4 0 0 3 512 true 513 830 .none .none .none (.ref 514)
def o_622:PO:=fun _=>gO "ask" "Shelf.ask" (inClass (top 22) 1)
def o_720:PO:=fun _=>fO "_law_span" "_law_span" (top 29) .none "law_leastasked_k08_whole_one_row" 742 482
def o_770:PO:=fun _=>tO #[.str "_law_row" 855, .str "_law_shelf" 856, .str "_law_name" 857, .str "_law_found" 858]
def o_638:PO:=fun _=>fO "names" "Shelf.names" (inClass (top 22) 3) .none "leastasked.shelf" 640 402
def o_704:PO:=fun _=>gO "_law_names" "_law_names" (top 27)
def o_630:PO:=fun _=>cR "drop" "Shelf.drop" 675 224 2 0 0 3 390 681
def o_662:PO:=fun _=>tO #[.str "self" 718, .str "name" 719, .str "reason" 720, .str "count" 721, .str "last" 722]
def o_778:PO:=fun _=>cO "law" "law" 862 342 1 0 0 3 536 true 537 865 .none .none .none (.ref 538)
def o_712:PO:=fun _=>cR "_law_many" "_law_many" 773 276 1 0 0 3 470 777
def o_678:PO:=fun _=>{ cls:=.type "builtin_function_or_method", data:=.fields #[.builtin "object.__init_subclass__", .ref 441] }
def o_614:PO:=fun _=>gO "__init__" "Shelf.__init__" (inClass (top 22) 0)
def o_744:PO:=fun _=>tO #[.str "_law_found" 818, .str "_law_sizes" 819, .str "_law_answers_here" 820, .str "_law_places" 821, .str "_law_answer" 822, .str "_law_met" 823]
def o_620:PO:=fun _=>tO #[.str "self" 668, .str "name" 669, .str "weight" 670, .str "met" 671]
def o_686:PO:=fun _=>cR "_law_cell_at" "_law_cell_at" 744 254 2 0 0 3 444 749
def o_652:PO:=fun _=>fO "goings" "Shelf.goings" (inClass (top 22) 5) .none "leastasked.shelf" 640 416
def o_718:PO:=fun _=>gO "_law_span" "_law_span" (top 29)
def o_636:PO:=fun _=>gO "names" "Shelf.names" (inClass (top 22) 3)
def o_734:PO:=fun _=>fO "_law_deed" "_law_deed" (top 31) .none "law_leastasked_k08_whole_one_row" 742 496
def o_758:PO:=fun _=>fO "_law_spots_fit" "_law_spots_fit" (top 35) .none "law_leastasked_k08_whole_one_row" 742 520
def o_694:PO:=fun _=>fO "_law_whole" "_law_whole" (top 25) .none "law_leastasked_k08_whole_one_row" 742 456
def o_726:PO:=fun _=>cR "_law_part" "_law_part" 787 284 1 0 0 3 484 791
def o_644:PO:=fun _=>cR "has" "Shelf.has" 691 234 2 0 0 3 404 696
def o_676:PO:=fun _=>{ cls:=.type "type", data:=.cls { name:="Shelf", bases:=[.ref 261], mro:=[.ref 441, .ref 261, .type "object"], ns:=440, qualname:="Shelf" }, slots:=#[some (.ref 368), none, some (.str "Shelf" 642), some (.str "Shelf" 650), some (.builtin "object.__new__"), some (.bool true)] }
def o_612:PO:=fun _=>tO #[.str "self" 657, .str "places" 658, .str "span" 659, .str "part" 660]
def o_602:PO:=fun _=>{ cls:=.type "type", data:=.cls { name:="Book", bases:=[.type "object"], mro:=[.ref 261, .type "object"], ns:=260, qualname:="Book", subclasses:=[.ref 365, .ref 441] }, slots:=#[none, none, some (.str "Book" 339), some (.str "Book" 347), some (.builtin "object.__new__"), some (.bool true)] }
def o_624:PO:=fun _=>fO "ask" "Shelf.ask" (inClass (top 22) 1) (.ref 382) "leastasked.shelf" 640 388
def o_690:PO:=fun _=>tO #[.str "_law_found" 755]
def o_772:PO:=fun _=>gO "_law_like_book" "_law_like_book" (top 37)
def o_706:PO:=fun _=>fO "_law_names" "_law_names" (top 27) .none "law_leastasked_k08_whole_one_row" 742 468
def o_672:PO:=fun _=>cR "fade" "Shelf.fade" 726 250 3 0 0 3 432 732
def o_608:PO:=fun _=>cO "Shelf" "Shelf" 644 207 0 0 0 0 371 false 372 647 .none .none .none .none
def o_664:PO:=fun _=>gO "take_off" "Shelf.take_off" (inClass (top 22) 7)
def o_730:PO:=fun _=>tO #[.str "_law_cell" 797, .str "_law_k" 798, .str "_law_names_here" 799, .str "_law_span_here" 800, .str "_law_light" 801, .str "_law_mixed" 802, .str "_law_name" 803]
def o_648:PO:=fun _=>tO #[.str "self" 702]
def o_616:PO:=fun _=>fO "__init__" "Shelf.__init__" (inClass (top 22) 0) .none "leastasked.shelf" 640 380
def o_746:PO:=fun _=>gO "_law_depth_fits" "_law_depth_fits" (top 33)
def o_685:PO:=fun _=>gO "_law_cell_at" "_law_cell_at" (top 24)
def o_651:PO:=fun _=>cR "goings" "Shelf.goings" 699 237 1 0 0 3 411 703
def o_765:PO:=fun _=>fO "_law_all_fit" "_law_all_fit" (top 36) .none "law_leastasked_k08_whole_one_row" 742 527
def o_701:PO:=fun _=>fO "_law_sign" "_law_sign" (top 26) .none "law_leastasked_k08_whole_one_row" 742 463
def o_733:PO:=fun _=>cR "_law_deed" "_law_deed" 794 288 5 0 0 3 491 804
def o_757:PO:=fun _=>cO "_law_spots_fit" "_law_spots_fit" 833 320 4 0 0 3 517 true 518 836 .none .none .none (.ref 519)
def o_627:PO:=fun _=>tO #[.str "self" 678, .str "name" 679, .str "stood" 680]
def o_693:PO:=fun _=>cR "_law_whole" "_law_whole" 752 258 1 0 0 3 451 756
def o_659:PO:=fun _=>fO "take_in" "Shelf.take_in" (inClass (top 22) 6) .none "leastasked.shelf" 640 423
def o_725:PO:=fun _=>gO "_law_part" "_law_part" (top 30)
def o_643:PO:=fun _=>gO "has" "Shelf.has" (inClass (top 22) 4)
def o_709:PO:=fun _=>tO #[.str "_law_cell" 776]
def o_675:PO:=fun P=>dO #[en P "__module__" 649 (.str "leastasked.shelf" 640), en P "__firstlineno__" 653 (.int 207 652), en P "__init__" 663 (.ref 381), en P "ask" 674 (.ref 389), en P "drop" 683 (.ref 396), en P "names" 690 (.ref 403), en P "has" 698 (.ref 410), en P "goings" 705 (.ref 417), en P "take_in" 714 (.ref 424), en P "take_off" 725 (.ref 431), en P "fade" 734 (.ref 438), en P "__static_attributes__" 738 (.ref 439), en P "__doc__" 739 .none] 2
def o_741:PO:=fun _=>fO "_law_do" "_law_do" (top 32) .none "law_leastasked_k08_whole_one_row" 742 503
def o_767:PO:=fun _=>{ cls:=.none, data:=.fields #[.int 1 0, .int 0 0, .ref 20, .int 5 0, .int 0 0, .ref 27, .int 7 0, .int 0 0, .ref 40, .int 9 0, .int 0 0, .ref 52, .int 11 0, .int 0 0, .ref 64, .int 14 0, .int 0 0, .ref 76, .int 18 0, .int 0 0, .ref 81, .int 22 0, .int 0 0, .ref 88, .int 25 0, .int 0 0, .ref 95, .int 28 0, .int 0 0, .ref 102, .int 31 0, .int 0 0, .ref 109, .int 34 0, .int 0 0, .ref 116, .int 40 0, .int 0 0, .ref 123, .int 42 0, .int 0 0, .ref 130, .int 48 0, .int 0 0, .ref 137, .int 134 0, .int 0 0, .ref 271, .int 207 0, .int 0 0, .ref 373, .int 254 0, .int 0 0, .ref 449, .int 258 0, .int 0 0, .ref 456, .int 260 0, .int 0 0, .ref 463, .int 264 0, .int 0 0, .ref 468, .int 276 0, .int 0 0, .ref 475, .int 280 0, .int 0 0, .ref 482, .int 284 0, .int 0 0, .ref 489, .int 288 0, .int 0 0, .ref 496, .int 298 0, .int 0 0, .ref 503, .int 306 0, .int 0 0, .ref 510, .int 314 0, .int 0 0, .ref 515, .int 320 0, .int 0 0, .ref 520, .int 327 0, .int 0 0, .ref 527, .int 336 0, .int 0 0, .ref 534, .int 342 0, .int 0 0, .ref 539] }
def o_753:PO:=fun _=>fO "_law_answers" "_law_answers" (top 34) .none "law_leastasked_k08_whole_one_row" 742 515
def o_623:PO:=fun _=>cR "ask" "Shelf.ask" 665 216 3 0 0 3 383 672
def o_655:PO:=fun _=>tO #[.str "self" 709, .str "name" 710, .str "weakest" 711]
def o_705:PO:=fun _=>cO "_law_names" "_law_names" 767 264 2 0 0 3 465 true 466 770 .none .none .none (.ref 467)
def o_671:PO:=fun _=>gO "fade" "Shelf.fade" (inClass (top 22) 8)
def o_607:PO:=fun _=>{ cls:=.none, data:=.fields #[.int 209 0, .int 4 0, .ref 380, .int 216 0, .int 4 0, .ref 388, .int 224 0, .int 4 0, .ref 395, .int 231 0, .int 4 0, .ref 402, .int 234 0, .int 4 0, .ref 409, .int 237 0, .int 4 0, .ref 416, .int 240 0, .int 4 0, .ref 423, .int 246 0, .int 4 0, .ref 430, .int 250 0, .int 4 0, .ref 437] }
def o_737:PO:=fun _=>tO #[.str "_law_thing" 810, .str "_law_deed_here" 811]
def o_761:PO:=fun _=>tO #[.str "_law_row" 842, .str "_law_shelves" 843, .str "_law_sizes" 844, .str "_law_names_here" 845, .str "_law_shelf" 846, .str "_law_places" 847, .str "_law_found" 848]
def o_631:PO:=fun _=>fO "drop" "Shelf.drop" (inClass (top 22) 2) .none "leastasked.shelf" 640 395
def o_697:PO:=fun _=>tO #[.str "_law_number" 762, .str "_law_some" 763]
def o_779:PO:=fun _=>fO "law" "law" (top 38) .none "law_leastasked_k08_whole_one_row" 742 539
def o_713:PO:=fun _=>fO "_law_many" "_law_many" (top 28) .none "law_leastasked_k08_whole_one_row" 742 475
def o_615:PO:=fun _=>cR "__init__" "Shelf.__init__" 654 209 4 0 0 3 375 661
def o_751:PO:=fun _=>gO "_law_answers" "_law_answers" (top 34)
def o_687:PO:=fun _=>fO "_law_cell_at" "_law_cell_at" (top 24) .none "law_leastasked_k08_whole_one_row" 742 449
def o_719:PO:=fun _=>cR "_law_span" "_law_span" 780 280 1 0 0 3 477 784
def o_637:PO:=fun _=>cR "names" "Shelf.names" 684 231 1 0 0 3 397 688
def o_669:PO:=fun _=>tO #[.str "self" 729, .str "name" 730, .str "last" 731]
def o_605:PO:=fun P=>dO #[en P "__module__" 649 (.str "leastasked.shelf" 640), en P "__qualname__" 651 (.str "Shelf" 650), en P "__firstlineno__" 653 (.int 207 652), en P "__init__" 663 (.ref 381), en P "ask" 674 (.ref 389), en P "drop" 683 (.ref 396), en P "names" 690 (.ref 403), en P "has" 698 (.ref 410), en P "goings" 705 (.ref 417), en P "take_in" 714 (.ref 424), en P "take_off" 725 (.ref 431), en P "fade" 734 (.ref 438), en P "__static_attributes__" 738 (.ref 439)] 13
def o_629:PO:=fun _=>gO "drop" "Shelf.drop" (inClass (top 22) 2)
def o_727:PO:=fun _=>fO "_law_part" "_law_part" (top 30) .none "law_leastasked_k08_whole_one_row" 742 489
def o_777:PO:=fun _=>gO "law" "law" (top 38)
def o_645:PO:=fun _=>fO "has" "Shelf.has" (inClass (top 22) 4) .none "leastasked.shelf" 640 409
def o_711:PO:=fun _=>gO "_law_many" "_law_many" (top 28)
def o_677:PO:=fun _=>{ cls:=.type "super", data:=.fields #[.ref 441, .ref 441, .ref 441] }
def o_657:PO:=fun _=>gO "take_in" "Shelf.take_in" (inClass (top 22) 6)
def o_723:PO:=fun _=>tO #[.str "_law_cell" 790]
def o_773:PO:=fun _=>cR "_law_like_book" "_law_like_book" 852 336 3 0 0 3 529 859
def o_641:PO:=fun _=>tO #[.str "self" 694, .str "name" 695]
def o_673:PO:=fun _=>fO "fade" "Shelf.fade" (inClass (top 22) 8) .none "leastasked.shelf" 640 437
def o_609:PO:=fun _=>{ cls:=.type "frame", slots:=#[some (.ref 373), some (.ref 3), some (.ref 370), none, some (.str "leastasked.shelf" 640), none, some (.ref 0)] }
def o_739:PO:=fun _=>gO "_law_do" "_law_do" (top 32)
def o_763:PO:=fun _=>gO "_law_all_fit" "_law_all_fit" (top 36)
def o_699:PO:=fun _=>gO "_law_sign" "_law_sign" (top 26)
def o_665:PO:=fun _=>cR "take_off" "Shelf.take_off" 715 246 5 0 0 3 425 723
def o_683:PO:=fun _=>tO #[.str "_law_script" 747, .str "_law_k" 748]
def o_617:PO:=fun _=>tO #[.int 1 664]
def o_747:PO:=fun _=>cR "_law_depth_fits" "_law_depth_fits" 815 306 3 0 0 3 505 824
def KK:Params -> Frag:=fun P=>
(nat_lit 2, { cls:=.none, data:=.dict #[] })::
(nat_lit 3,o_766 P)::
(nat_lit 15,o_43 P)::
(nat_lit 17,o_53 P)::
(nat_lit 18,o_43 P)::
(nat_lit 20,o_56 P)::
(nat_lit 21,o_57 P)::
(nat_lit 22,o_58 P)::
(nat_lit 29,o_43 P)::
(nat_lit 30,o_66 P)::
(nat_lit 31,o_103 P)::
(nat_lit 32,o_68 P)::
(nat_lit 35,o_89 P)::
(nat_lit 42,o_43 P)::
(nat_lit 43,o_82 P)::
(nat_lit 44,o_83 P)::
(nat_lit 47,o_89 P)::
(nat_lit 54,o_43 P)::
(nat_lit 55,o_97 P)::
(nat_lit 56,o_98 P)::
(nat_lit 59,o_89 P)::
(nat_lit 66,o_43 P)::
(nat_lit 67,o_112 P)::
(nat_lit 68,o_113 P)::
(nat_lit 71,o_43 P)::
(nat_lit 73,o_118 P)::
(nat_lit 74,o_43 P)::
(nat_lit 76,o_121 P)::
(nat_lit 77,o_122 P)::
(nat_lit 78,o_43 P)::
(nat_lit 81,o_126 P)::
(nat_lit 82,o_127 P)::
(nat_lit 83,o_43 P)::
(nat_lit 85,o_130 P)::
(nat_lit 86,o_43 P)::
(nat_lit 88,o_133 P)::
(nat_lit 89,o_134 P)::
(nat_lit 90,o_43 P)::
(nat_lit 92,o_137 P)::
(nat_lit 93,o_43 P)::
(nat_lit 95,o_140 P)::
(nat_lit 96,o_141 P)::
(nat_lit 97,o_43 P)::
(nat_lit 99,o_144 P)::
(nat_lit 100,o_43 P)::
(nat_lit 102,o_147 P)::
(nat_lit 103,o_148 P)::
(nat_lit 104,o_43 P)::
(nat_lit 106,o_151 P)::
(nat_lit 107,o_43 P)::
(nat_lit 109,o_154 P)::
(nat_lit 110,o_155 P)::
(nat_lit 111,o_43 P)::
(nat_lit 113,o_160 P)::
(nat_lit 114,o_43 P)::
(nat_lit 116,o_163 P)::
(nat_lit 117,o_164 P)::
(nat_lit 118,o_43 P)::
(nat_lit 120,o_167 P)::
(nat_lit 121,o_43 P)::
(nat_lit 123,o_170 P)::
(nat_lit 124,o_171 P)::
(nat_lit 125,o_43 P)::
(nat_lit 127,o_174 P)::
(nat_lit 128,o_43 P)::
(nat_lit 130,o_177 P)::
(nat_lit 131,o_178 P)::
(nat_lit 139,o_43 P)::
(nat_lit 141,o_190 P)::
(nat_lit 142,o_43 P)::
(nat_lit 144,o_193 P)::
(nat_lit 145,o_194 P)::
(nat_lit 146,o_195 P)::
(nat_lit 147,o_43 P)::
(nat_lit 149,o_198 P)::
(nat_lit 150,o_43 P)::
(nat_lit 152,o_201 P)::
(nat_lit 153,o_202 P)::
(nat_lit 154,o_43 P)::
(nat_lit 156,o_205 P)::
(nat_lit 157,o_43 P)::
(nat_lit 159,o_208 P)::
(nat_lit 160,o_209 P)::
(nat_lit 161,o_43 P)::
(nat_lit 163,o_212 P)::
(nat_lit 164,o_43 P)::
(nat_lit 166,o_215 P)::
(nat_lit 167,o_216 P)::
(nat_lit 168,o_43 P)::
(nat_lit 170,o_219 P)::
(nat_lit 171,o_43 P)::
(nat_lit 173,o_222 P)::
(nat_lit 174,o_223 P)::
(nat_lit 175,o_43 P)::
(nat_lit 177,o_226 P)::
(nat_lit 178,o_43 P)::
(nat_lit 180,o_229 P)::
(nat_lit 181,o_230 P)::
(nat_lit 182,o_43 P)::
(nat_lit 184,o_233 P)::
(nat_lit 185,o_43 P)::
(nat_lit 187,o_236 P)::
(nat_lit 188,o_237 P)::
(nat_lit 189,o_43 P)::
(nat_lit 191,o_240 P)::
(nat_lit 192,o_43 P)::
(nat_lit 194,o_243 P)::
(nat_lit 195,o_244 P)::
(nat_lit 196,o_43 P)::
(nat_lit 198,o_247 P)::
(nat_lit 199,o_43 P)::
(nat_lit 201,o_250 P)::
(nat_lit 202,o_251 P)::
(nat_lit 203,o_43 P)::
(nat_lit 205,o_254 P)::
(nat_lit 206,o_43 P)::
(nat_lit 208,o_257 P)::
(nat_lit 209,o_258 P)::
(nat_lit 210,o_43 P)::
(nat_lit 212,o_261 P)::
(nat_lit 213,o_43 P)::
(nat_lit 215,o_264 P)::
(nat_lit 216,o_265 P)::
(nat_lit 217,o_43 P)::
(nat_lit 219,o_268 P)::
(nat_lit 220,o_43 P)::
(nat_lit 222,o_271 P)::
(nat_lit 223,o_272 P)::
(nat_lit 224,o_43 P)::
(nat_lit 226,o_275 P)::
(nat_lit 227,o_43 P)::
(nat_lit 229,o_278 P)::
(nat_lit 230,o_279 P)::
(nat_lit 231,o_43 P)::
(nat_lit 233,o_282 P)::
(nat_lit 234,o_43 P)::
(nat_lit 236,o_285 P)::
(nat_lit 237,o_286 P)::
(nat_lit 238,o_43 P)::
(nat_lit 240,o_289 P)::
(nat_lit 241,o_43 P)::
(nat_lit 243,o_292 P)::
(nat_lit 244,o_293 P)::
(nat_lit 245,o_43 P)::
(nat_lit 247,o_296 P)::
(nat_lit 248,o_43 P)::
(nat_lit 250,o_299 P)::
(nat_lit 251,o_300 P)::
(nat_lit 252,o_43 P)::
(nat_lit 254,o_303 P)::
(nat_lit 255,o_43 P)::
(nat_lit 257,o_306 P)::
(nat_lit 258,o_307 P)::
(nat_lit 259,o_308 P)::
(nat_lit 260,o_309 P)::
(nat_lit 261,o_602 P)::
(nat_lit 262,o_311 P)::
(nat_lit 263,o_312 P)::
(nat_lit 266,o_409 P)::
(nat_lit 273,o_43 P)::
(nat_lit 275,o_418 P)::
(nat_lit 276,o_43 P)::
(nat_lit 278,o_421 P)::
(nat_lit 279,o_422 P)::
(nat_lit 280,o_423 P)::
(nat_lit 281,o_43 P)::
(nat_lit 283,o_426 P)::
(nat_lit 284,o_43 P)::
(nat_lit 286,o_429 P)::
(nat_lit 287,o_430 P)::
(nat_lit 288,o_43 P)::
(nat_lit 290,o_433 P)::
(nat_lit 291,o_43 P)::
(nat_lit 293,o_436 P)::
(nat_lit 294,o_437 P)::
(nat_lit 295,o_43 P)::
(nat_lit 297,o_440 P)::
(nat_lit 298,o_43 P)::
(nat_lit 300,o_443 P)::
(nat_lit 301,o_444 P)::
(nat_lit 302,o_43 P)::
(nat_lit 304,o_447 P)::
(nat_lit 305,o_43 P)::
(nat_lit 307,o_450 P)::
(nat_lit 308,o_451 P)::
(nat_lit 309,o_43 P)::
(nat_lit 311,o_454 P)::
(nat_lit 312,o_43 P)::
(nat_lit 314,o_457 P)::
(nat_lit 315,o_458 P)::
(nat_lit 316,o_43 P)::
(nat_lit 318,o_461 P)::
(nat_lit 319,o_43 P)::
(nat_lit 321,o_464 P)::
(nat_lit 322,o_465 P)::
(nat_lit 323,o_43 P)::
(nat_lit 325,o_468 P)::
(nat_lit 326,o_43 P)::
(nat_lit 328,o_471 P)::
(nat_lit 329,o_472 P)::
(nat_lit 330,o_43 P)::
(nat_lit 333,o_476 P)::
(nat_lit 334,o_477 P)::
(nat_lit 335,o_43 P)::
(nat_lit 337,o_480 P)::
(nat_lit 338,o_43 P)::
(nat_lit 340,o_483 P)::
(nat_lit 341,o_484 P)::
(nat_lit 342,o_43 P)::
(nat_lit 344,o_487 P)::
(nat_lit 345,o_43 P)::
(nat_lit 347,o_490 P)::
(nat_lit 348,o_491 P)::
(nat_lit 349,o_43 P)::
(nat_lit 351,o_494 P)::
(nat_lit 352,o_43 P)::
(nat_lit 354,o_497 P)::
(nat_lit 355,o_498 P)::
(nat_lit 356,o_43 P)::
(nat_lit 358,o_501 P)::
(nat_lit 359,o_43 P)::
(nat_lit 361,o_504 P)::
(nat_lit 362,o_505 P)::
(nat_lit 363,o_506 P)::
(nat_lit 364,o_507 P)::
(nat_lit 365,o_508 P)::
(nat_lit 368,o_409 P)::
(nat_lit 375,o_43 P)::
(nat_lit 377,o_612 P)::
(nat_lit 378,o_43 P)::
(nat_lit 380,o_615 P)::
(nat_lit 381,o_616 P)::
(nat_lit 382,o_617 P)::
(nat_lit 383,o_43 P)::
(nat_lit 385,o_620 P)::
(nat_lit 386,o_43 P)::
(nat_lit 388,o_623 P)::
(nat_lit 389,o_624 P)::
(nat_lit 390,o_43 P)::
(nat_lit 392,o_627 P)::
(nat_lit 393,o_43 P)::
(nat_lit 395,o_630 P)::
(nat_lit 396,o_631 P)::
(nat_lit 397,o_43 P)::
(nat_lit 399,o_634 P)::
(nat_lit 400,o_43 P)::
(nat_lit 402,o_637 P)::
(nat_lit 403,o_638 P)::
(nat_lit 404,o_43 P)::
(nat_lit 406,o_641 P)::
(nat_lit 407,o_43 P)::
(nat_lit 409,o_644 P)::
(nat_lit 410,o_645 P)::
(nat_lit 411,o_43 P)::
(nat_lit 413,o_648 P)::
(nat_lit 414,o_43 P)::
(nat_lit 416,o_651 P)::
(nat_lit 417,o_652 P)::
(nat_lit 418,o_43 P)::
(nat_lit 420,o_655 P)::
(nat_lit 421,o_43 P)::
(nat_lit 423,o_658 P)::
(nat_lit 424,o_659 P)::
(nat_lit 425,o_43 P)::
(nat_lit 427,o_662 P)::
(nat_lit 428,o_43 P)::
(nat_lit 430,o_665 P)::
(nat_lit 431,o_666 P)::
(nat_lit 432,o_43 P)::
(nat_lit 434,o_669 P)::
(nat_lit 435,o_43 P)::
(nat_lit 437,o_672 P)::
(nat_lit 438,o_673 P)::
(nat_lit 439,o_674 P)::
(nat_lit 440,o_675 P)::
(nat_lit 441,o_676 P)::
(nat_lit 444,o_43 P)::
(nat_lit 446,o_683 P)::
(nat_lit 447,o_43 P)::
(nat_lit 449,o_686 P)::
(nat_lit 450,o_687 P)::
(nat_lit 451,o_43 P)::
(nat_lit 453,o_690 P)::
(nat_lit 454,o_43 P)::
(nat_lit 456,o_693 P)::
(nat_lit 457,o_694 P)::
(nat_lit 458,o_43 P)::
(nat_lit 460,o_697 P)::
(nat_lit 461,o_43 P)::
(nat_lit 463,o_700 P)::
(nat_lit 464,o_701 P)::
(nat_lit 465,o_43 P)::
(nat_lit 468,o_705 P)::
(nat_lit 469,o_706 P)::
(nat_lit 470,o_43 P)::
(nat_lit 472,o_709 P)::
(nat_lit 473,o_43 P)::
(nat_lit 475,o_712 P)::
(nat_lit 476,o_713 P)::
(nat_lit 477,o_43 P)::
(nat_lit 479,o_716 P)::
(nat_lit 480,o_43 P)::
(nat_lit 482,o_719 P)::
(nat_lit 483,o_720 P)::
(nat_lit 484,o_43 P)::
(nat_lit 486,o_723 P)::
(nat_lit 487,o_43 P)::
(nat_lit 489,o_726 P)::
(nat_lit 490,o_727 P)::
(nat_lit 491,o_43 P)::
(nat_lit 493,o_730 P)::
(nat_lit 494,o_43 P)::
(nat_lit 496,o_733 P)::
(nat_lit 497,o_734 P)::
(nat_lit 498,o_43 P)::
(nat_lit 500,o_737 P)::
(nat_lit 501,o_43 P)::
(nat_lit 503,o_740 P)::
(nat_lit 504,o_741 P)::
(nat_lit 505,o_43 P)::
(nat_lit 507,o_744 P)::
(nat_lit 508,o_43 P)::
(nat_lit 510,o_747 P)::
(nat_lit 511,o_748 P)::
(nat_lit 512,o_43 P)::
(nat_lit 515,o_752 P)::
(nat_lit 516,o_753 P)::
(nat_lit 517,o_43 P)::
(nat_lit 520,o_757 P)::
(nat_lit 521,o_758 P)::
(nat_lit 522,o_43 P)::
(nat_lit 524,o_761 P)::
(nat_lit 525,o_43 P)::
(nat_lit 527,o_764 P)::
(nat_lit 528,o_765 P)::
(nat_lit 529,o_43 P)::
(nat_lit 531,o_770 P)::
(nat_lit 532,o_43 P)::
(nat_lit 534,o_773 P)::
(nat_lit 535,o_774 P)::
(nat_lit 536,o_43 P)::
(nat_lit 539,o_778 P)::
(nat_lit 540,o_779 P) :: []
def KA:List Addr:=[2,3,15,17,18,20,21,22,29,30,31,32,35,42,43,44,47,54,55,56,59,66,67,68,71,73,74,76,77,78,81,82,83,85,86,88,89,90,92,93,95,96,97,99,100,102,103,104,106,107,109,110,111,113,114,116,117,118,120,121,123,124,125,127,128,130,131,139,141,142,144,145,146,147,149,150,152,153,154,156,157,159,160,161,163,164,166,167,168,170,171,173,174,175,177,178,180,181,182,184,185,187,188,189,191,192,194,195,196,198,199,201,202,203,205,206,208,209,210,212,213,215,216,217,219,220,222,223,224,226,227,229,230,231,233,234,236,237,238,240,241,243,244,245,247,248,250,251,252,254,255,257,258,259,260,261,262,263,266,273,275,276,278,279,280,281,283,284,286,287,288,290,291,293,294,295,297,298,300,301,302,304,305,307,308,309,311,312,314,315,316,318,319,321,322,323,325,326,328,329,330,333,334,335,337,338,340,341,342,344,345,347,348,349,351,352,354,355,356,358,359,361,362,363,364,365,368,375,377,378,380,381,382,383,385,386,388,389,390,392,393,395,396,397,399,400,402,403,404,406,407,409,410,411,413,414,416,417,418,420,421,423,424,425,427,428,430,431,432,434,435,437,438,439,440,441,444,446,447,449,450,451,453,454,456,457,458,460,461,463,464,465,468,469,470,472,473,475,476,477,479,480,482,483,484,486,487,489,490,491,493,494,496,497,498,500,501,503,504,505,507,508,510,511,512,515,516,517,520,521,522,524,525,527,528,529,531,532,534,535,536,539,540]
theorem ka (P:Params):KA = (KK P).map (·.1):=by kernel_rfl
def hook:Hook:=kHook KK KA ka
def view:Program:={ PySem.Challenge.pw_leastasked_k08_whole_one_row with main:={ PySem.Challenge.pw_leastasked_k08_whole_one_row.main with body:=[top 0, top 2, top 3, top 4, top 5, top 7, top 8, top 9, top 10, top 11, top 12, top 13, top 15, top 16, top 18, top 20, top 22, top 24, top 25, top 26, top 27, top 28, top 29, top 30, top 31, top 32, top 33, top 34, top 35, top 36, top 37, top 38] } }
def seenX:Shared -> Bool:=fun s=>xlAt view [] s && recOk (PySem.Challenge.rw_leastasked_k08_whole_one_row).row.records s
def h0:Params -> Heap:=fun P=>{ objs:={ toList:=[boot_o_0 P, boot_o_1 P, boot_o_2 P, boot_o_3 P, boot_o_4 P, boot_o_5 P, boot_o_6 P, boot_o_7 P, boot_o_8 P, boot_o_9 P, boot_o_10 P, o_43 P, o_44 P, o_45 P, o_46 P] } }
def t0:PT:=Nn boot_o_0 (Nn boot_o_1 (Nn boot_o_3 (Lf boot_o_7) (Lf o_43)) (Nn boot_o_5 (Lf boot_o_9) (Lf o_45))) (Nn boot_o_2 (Nn boot_o_4 (Lf boot_o_8) (Lf o_44)) (Nn boot_o_6 (Lf boot_o_10) (Lf o_46)))
def t1:PT:=Nn boot_o_0 (Nn boot_o_1 (Nn o_86 (Nn boot_o_7 (Nn o_43 (Lf o_88) (Lf o_89)) (Nn o_59 (Lf o_44) (Lf o_97))) (Nn o_43 (Nn o_55 (Lf o_89) (Lf o_44)) (Nn o_63 (Lf o_82) Ze))) (Nn boot_o_5 (Nn boot_o_9 (Nn o_53 (Lf o_69) (Lf o_91)) (Nn o_43 (Lf o_80) (Lf o_99))) (Nn o_45 (Nn o_57 (Lf o_76) (Lf o_95)) (Nn o_43 (Lf o_84) Ze)))) (Nn boot_o_2 (Nn boot_o_4 (Nn boot_o_8 (Nn o_44 (Lf o_68) (Lf o_59)) (Nn o_60 (Lf o_79) (Lf o_98))) (Nn o_87 (Nn o_56 (Lf o_59) (Lf o_94)) (Nn o_64 (Lf o_83) Ze))) (Nn boot_o_6 (Nn boot_o_10 (Nn o_43 (Lf o_70) (Lf o_43)) (Nn o_44 (Lf o_43) (Lf o_100))) (Nn o_46 (Nn o_58 (Lf o_43) (Lf o_43)) (Nn o_66 (Lf o_85) Ze))))
def t2:PT:=Nn boot_o_0 (Nn boot_o_1 (Nn o_156 (Nn boot_o_7 (Nn o_43 (Nn o_103 (Nn o_44 (Lf o_174) Ze) (Lf o_140)) (Nn o_89 (Lf o_44) (Lf o_43))) (Nn o_59 (Nn o_44 (Lf o_43) (Lf o_148)) (Nn o_97 (Lf o_132) (Lf o_44)))) (Nn o_43 (Nn o_55 (Nn o_89 (Nn o_112 (Lf o_178) Ze) (Lf o_144)) (Nn o_44 (Lf o_43) (Lf o_162))) (Nn o_63 (Nn o_82 (Lf o_120) (Lf o_43)) (Nn o_89 (Lf o_44) (Lf o_170))))) (Nn boot_o_5 (Nn boot_o_9 (Nn o_53 (Nn o_69 (Nn o_110 (Lf o_176) Ze) (Lf o_43)) (Nn o_91 (Lf o_126) (Lf o_160))) (Nn o_43 (Nn o_80 (Lf o_118) (Lf o_44)) (Nn o_99 (Lf o_134) (Lf o_43)))) (Nn o_45 (Nn o_57 (Nn o_76 (Lf o_114) (Lf o_146)) (Nn o_95 (Lf o_130) (Lf o_164))) (Nn o_43 (Nn o_84 (Lf o_122) (Lf o_154)) (Nn o_106 (Lf o_43) (Lf o_43)))))) (Nn boot_o_2 (Nn boot_o_4 (Nn boot_o_8 (Nn o_44 (Nn o_68 (Nn o_109 (Lf o_43) Ze) (Lf o_141)) (Nn o_59 (Lf o_125) (Lf o_44))) (Nn o_60 (Nn o_79 (Lf o_44) (Lf o_43)) (Nn o_98 (Lf o_133) (Lf o_167)))) (Nn o_157 (Nn o_56 (Nn o_59 (Lf o_113) (Lf o_43)) (Nn o_94 (Lf o_44) (Lf o_163))) (Nn o_64 (Nn o_83 (Lf o_121) (Lf o_153)) (Nn o_59 (Lf o_137) (Lf o_171))))) (Nn boot_o_6 (Nn boot_o_10 (Nn o_43 (Nn o_70 (Nn o_43 (Lf o_177) Ze) (Lf o_44)) (Nn o_43 (Lf o_127) (Lf o_43))) (Nn o_44 (Nn o_43 (Lf o_43) (Lf o_151)) (Nn o_100 (Lf o_43) (Lf o_169)))) (Nn o_46 (Nn o_58 (Nn o_43 (Lf o_115) (Lf o_147)) (Nn o_43 (Lf o_43) (Lf o_43))) (Nn o_66 (Nn o_85 (Lf o_43) (Lf o_155)) (Nn o_43 (Lf o_139) (Lf o_44))))))
def t3:PT:=Nn boot_o_0 (Nn boot_o_1 (Nn o_404 (Nn boot_o_7 (Nn o_43 (Nn o_103 (Nn o_44 (Nn o_174 (Lf o_43) Ze) (Lf o_240)) (Nn o_140 (Lf o_208) (Lf o_272))) (Nn o_89 (Nn o_44 (Lf o_192) (Lf o_256)) (Nn o_43 (Lf o_43) (Lf o_44)))) (Nn o_59 (Nn o_44 (Nn o_43 (Nn o_43 (Lf o_312) Ze) (Lf o_43)) (Nn o_148 (Lf o_216) (Lf o_43))) (Nn o_97 (Nn o_132 (Lf o_200) (Lf o_264)) (Nn o_44 (Lf o_44) (Lf o_296))))) (Nn o_43 (Nn o_55 (Nn o_89 (Nn o_112 (Nn o_178 (Lf o_308) Ze) (Lf o_244)) (Nn o_144 (Lf o_212) (Lf o_43))) (Nn o_44 (Nn o_43 (Lf o_43) (Lf o_44)) (Nn o_162 (Lf o_228) (Lf o_292)))) (Nn o_63 (Nn o_82 (Nn o_120 (Lf o_43) (Lf o_43)) (Nn o_43 (Lf o_43) (Lf o_284))) (Nn o_89 (Nn o_44 (Lf o_44) (Lf o_268)) (Nn o_170 (Lf o_236) (Lf o_300)))))) (Nn boot_o_5 (Nn boot_o_9 (Nn o_53 (Nn o_69 (Nn o_110 (Nn o_176 (Lf o_306) Ze) (Lf o_242)) (Nn o_43 (Lf o_43) (Lf o_44))) (Nn o_91 (Nn o_126 (Lf o_194) (Lf o_258)) (Nn o_160 (Lf o_226) (Lf o_43)))) (Nn o_43 (Nn o_80 (Nn o_118 (Nn o_186 (Lf o_314) Ze) (Lf o_250)) (Nn o_44 (Lf o_44) (Lf o_282))) (Nn o_99 (Nn o_134 (Lf o_202) (Lf o_43)) (Nn o_43 (Lf o_43) (Lf o_298))))) (Nn o_45 (Nn o_57 (Nn o_76 (Nn o_114 (Nn o_59 (Lf o_310) Ze) (Lf o_44)) (Nn o_146 (Lf o_214) (Lf o_278))) (Nn o_95 (Nn o_130 (Lf o_198) (Lf o_43)) (Nn o_164 (Lf o_230) (Lf o_43)))) (Nn o_43 (Nn o_84 (Nn o_122 (Lf o_190) (Lf o_254)) (Nn o_154 (Lf o_222) (Lf o_286))) (Nn o_106 (Nn o_43 (Lf o_43) (Lf o_270)) (Nn o_43 (Lf o_43) (Lf o_44))))))) (Nn boot_o_2 (Nn boot_o_4 (Nn boot_o_8 (Nn o_44 (Nn o_68 (Nn o_109 (Nn o_43 (Lf o_305) Ze) (Lf o_43)) (Nn o_141 (Lf o_209) (Lf o_43))) (Nn o_59 (Nn o_125 (Lf o_193) (Lf o_257)) (Nn o_44 (Lf o_44) (Lf o_289)))) (Nn o_60 (Nn o_79 (Nn o_44 (Nn o_185 (Lf o_313) Ze) (Lf o_249)) (Nn o_43 (Lf o_43) (Lf o_44))) (Nn o_98 (Nn o_133 (Lf o_201) (Lf o_265)) (Nn o_167 (Lf o_233) (Lf o_43))))) (Nn o_180 (Nn o_56 (Nn o_59 (Nn o_113 (Nn o_43 (Lf o_309) Ze) (Lf o_43)) (Nn o_43 (Lf o_43) (Lf o_277))) (Nn o_94 (Nn o_44 (Lf o_44) (Lf o_261)) (Nn o_163 (Lf o_229) (Lf o_293)))) (Nn o_64 (Nn o_83 (Nn o_121 (Lf o_44) (Lf o_44)) (Nn o_153 (Lf o_221) (Lf o_285))) (Nn o_59 (Nn o_137 (Lf o_205) (Lf o_43)) (Nn o_171 (Lf o_237) (Lf o_43)))))) (Nn boot_o_6 (Nn boot_o_10 (Nn o_43 (Nn o_70 (Nn o_43 (Nn o_177 (Lf o_307) Ze) (Lf o_243)) (Nn o_44 (Lf o_44) (Lf o_275))) (Nn o_43 (Nn o_127 (Lf o_195) (Lf o_43)) (Nn o_43 (Lf o_43) (Lf o_291)))) (Nn o_44 (Nn o_43 (Nn o_43 (Lf o_187) (Lf o_251)) (Nn o_151 (Lf o_219) (Lf o_43))) (Nn o_100 (Nn o_43 (Lf o_43) (Lf o_44)) (Nn o_169 (Lf o_235) (Lf o_299))))) (Nn o_46 (Nn o_58 (Nn o_43 (Nn o_115 (Nn o_183 (Lf o_311) Ze) (Lf o_247)) (Nn o_147 (Lf o_215) (Lf o_279))) (Nn o_43 (Nn o_43 (Lf o_43) (Lf o_263)) (Nn o_43 (Lf o_43) (Lf o_44)))) (Nn o_66 (Nn o_85 (Nn o_43 (Lf o_43) (Lf o_43)) (Nn o_155 (Lf o_223) (Lf o_43))) (Nn o_43 (Nn o_139 (Lf o_207) (Lf o_271)) (Nn o_44 (Lf o_44) (Lf o_303)))))))
def t4:PT:=Nn boot_o_0 (Nn boot_o_1 (Nn o_598 (Nn boot_o_7 (Nn o_43 (Nn o_103 (Nn o_44 (Nn o_174 (Lf o_43) Ze) (Nn o_240 (Lf o_43) Ze)) (Nn o_140 (Nn o_208 (Lf o_430) Ze) (Nn o_272 (Lf o_494) Ze))) (Nn o_89 (Nn o_44 (Nn o_192 (Lf o_414) Ze) (Nn o_256 (Lf o_43) Ze)) (Nn o_43 (Nn o_43 (Lf o_44) Ze) (Nn o_44 (Lf o_510) Ze)))) (Nn o_59 (Nn o_44 (Nn o_43 (Nn o_43 (Lf o_312) Ze) (Nn o_43 (Lf o_470) Ze)) (Nn o_148 (Nn o_216 (Lf o_43) Ze) (Nn o_43 (Lf o_43) Ze))) (Nn o_97 (Nn o_132 (Nn o_200 (Lf o_422) Ze) (Nn o_264 (Lf o_44) Ze)) (Nn o_44 (Nn o_44 (Lf o_454) Ze) (Lf o_296))))) (Nn o_43 (Nn o_55 (Nn o_89 (Nn o_112 (Nn o_178 (Lf o_308) Ze) (Nn o_244 (Lf o_43) Ze)) (Nn o_144 (Nn o_212 (Lf o_43) Ze) (Nn o_43 (Lf o_498) Ze))) (Nn o_44 (Nn o_43 (Nn o_43 (Lf o_418) Ze) (Nn o_44 (Lf o_482) Ze)) (Nn o_162 (Nn o_228 (Lf o_450) Ze) (Lf o_292)))) (Nn o_63 (Nn o_82 (Nn o_120 (Nn o_43 (Lf o_59) Ze) (Nn o_43 (Lf o_44) Ze)) (Nn o_43 (Nn o_43 (Lf o_442) Ze) (Nn o_284 (Lf o_506) Ze))) (Nn o_89 (Nn o_44 (Nn o_44 (Lf o_426) Ze) (Nn o_268 (Lf o_490) Ze)) (Nn o_170 (Nn o_236 (Lf o_458) Ze) (Lf o_300)))))) (Nn boot_o_5 (Nn boot_o_9 (Nn o_53 (Nn o_69 (Nn o_110 (Nn o_176 (Lf o_306) Ze) (Nn o_242 (Lf o_464) Ze)) (Nn o_43 (Nn o_43 (Lf o_44) Ze) (Nn o_44 (Lf o_496) Ze))) (Nn o_91 (Nn o_126 (Nn o_194 (Lf o_43) Ze) (Nn o_258 (Lf o_480) Ze)) (Nn o_160 (Nn o_226 (Lf o_43) Ze) (Lf o_43)))) (Nn o_43 (Nn o_80 (Nn o_118 (Nn o_186 (Lf o_314) Ze) (Nn o_250 (Lf o_472) Ze)) (Nn o_44 (Nn o_44 (Lf o_440) Ze) (Nn o_282 (Lf o_504) Ze))) (Nn o_99 (Nn o_134 (Nn o_202 (Lf o_43) Ze) (Nn o_43 (Lf o_43) Ze)) (Nn o_43 (Nn o_43 (Lf o_456) Ze) (Lf o_298))))) (Nn o_45 (Nn o_57 (Nn o_76 (Nn o_114 (Nn o_59 (Lf o_408) Ze) (Nn o_44 (Lf o_468) Ze)) (Nn o_146 (Nn o_214 (Lf o_436) Ze) (Nn o_278 (Lf o_44) Ze))) (Nn o_95 (Nn o_130 (Nn o_198 (Lf o_420) Ze) (Nn o_43 (Lf o_484) Ze)) (Nn o_164 (Nn o_230 (Lf o_43) Ze) (Lf o_43)))) (Nn o_43 (Nn o_84 (Nn o_122 (Nn o_190 (Lf o_43) Ze) (Nn o_254 (Lf o_476) Ze)) (Nn o_154 (Nn o_222 (Lf o_444) Ze) (Nn o_286 (Lf o_508) Ze))) (Nn o_106 (Nn o_43 (Nn o_43 (Lf o_428) Ze) (Nn o_270 (Lf o_43) Ze)) (Nn o_43 (Nn o_43 (Lf o_44) Ze) (Lf o_44))))))) (Nn boot_o_2 (Nn boot_o_4 (Nn boot_o_8 (Nn o_44 (Nn o_68 (Nn o_109 (Nn o_43 (Lf o_305) Ze) (Nn o_43 (Lf o_463) Ze)) (Nn o_141 (Nn o_209 (Lf o_43) Ze) (Nn o_43 (Lf o_43) Ze))) (Nn o_59 (Nn o_125 (Nn o_193 (Lf o_415) Ze) (Nn o_257 (Lf o_44) Ze)) (Nn o_44 (Nn o_44 (Lf o_447) Ze) (Lf o_289)))) (Nn o_60 (Nn o_79 (Nn o_44 (Nn o_185 (Lf o_313) Ze) (Nn o_249 (Lf o_471) Ze)) (Nn o_43 (Nn o_43 (Lf o_44) Ze) (Nn o_44 (Lf o_503) Ze))) (Nn o_98 (Nn o_133 (Nn o_201 (Lf o_423) Ze) (Nn o_265 (Lf o_487) Ze)) (Nn o_167 (Nn o_233 (Lf o_43) Ze) (Lf o_43))))) (Nn o_407 (Nn o_56 (Nn o_59 (Nn o_113 (Nn o_43 (Lf o_309) Ze) (Nn o_43 (Lf o_44) Ze)) (Nn o_43 (Nn o_43 (Lf o_435) Ze) (Nn o_277 (Lf o_43) Ze))) (Nn o_94 (Nn o_44 (Nn o_44 (Lf o_43) Ze) (Nn o_261 (Lf o_483) Ze)) (Nn o_163 (Nn o_229 (Lf o_451) Ze) (Lf o_293)))) (Nn o_64 (Nn o_83 (Nn o_121 (Nn o_44 (Lf o_411) Ze) (Nn o_44 (Lf o_475) Ze)) (Nn o_153 (Nn o_221 (Lf o_443) Ze) (Nn o_285 (Lf o_507) Ze))) (Nn o_59 (Nn o_137 (Nn o_205 (Lf o_43) Ze) (Nn o_43 (Lf o_491) Ze)) (Nn o_171 (Nn o_237 (Lf o_43) Ze) (Lf o_43)))))) (Nn boot_o_6 (Nn boot_o_10 (Nn o_43 (Nn o_70 (Nn o_43 (Nn o_177 (Lf o_307) Ze) (Nn o_243 (Lf o_465) Ze)) (Nn o_44 (Nn o_44 (Lf o_433) Ze) (Nn o_275 (Lf o_497) Ze))) (Nn o_43 (Nn o_127 (Nn o_195 (Lf o_44) Ze) (Nn o_43 (Lf o_43) Ze)) (Nn o_43 (Nn o_43 (Lf o_449) Ze) (Lf o_291)))) (Nn o_44 (Nn o_43 (Nn o_43 (Nn o_187 (Lf o_409) Ze) (Nn o_251 (Lf o_43) Ze)) (Nn o_151 (Nn o_219 (Lf o_43) Ze) (Nn o_43 (Lf o_505) Ze))) (Nn o_100 (Nn o_43 (Nn o_43 (Lf o_44) Ze) (Nn o_44 (Lf o_489) Ze)) (Nn o_169 (Nn o_235 (Lf o_457) Ze) (Lf o_299))))) (Nn o_46 (Nn o_58 (Nn o_43 (Nn o_115 (Nn o_183 (Lf o_311) Ze) (Nn o_247 (Lf o_43) Ze)) (Nn o_147 (Nn o_215 (Lf o_437) Ze) (Nn o_279 (Lf o_501) Ze))) (Nn o_43 (Nn o_43 (Nn o_43 (Lf o_421) Ze) (Nn o_263 (Lf o_43) Ze)) (Nn o_43 (Nn o_43 (Lf o_44) Ze) (Lf o_44)))) (Nn o_66 (Nn o_85 (Nn o_43 (Nn o_43 (Lf o_413) Ze) (Nn o_43 (Lf o_477) Ze)) (Nn o_155 (Nn o_223 (Lf o_43) Ze) (Nn o_43 (Lf o_509) Ze))) (Nn o_43 (Nn o_139 (Nn o_207 (Lf o_429) Ze) (Nn o_271 (Lf o_44) Ze)) (Nn o_44 (Nn o_44 (Lf o_461) Ze) (Lf o_303)))))))
def t5:PT:=Nn boot_o_0 (Nn boot_o_1 (Nn o_766 (Nn boot_o_7 (Nn o_43 (Nn o_103 (Nn o_44 (Nn o_174 (Nn o_43 (Lf o_748) Ze) (Lf o_43)) (Nn o_240 (Lf o_43) (Lf o_43))) (Nn o_140 (Nn o_208 (Lf o_430) (Lf o_650)) (Nn o_272 (Lf o_494) (Lf o_716)))) (Nn o_89 (Nn o_44 (Nn o_192 (Nn o_414 (Lf o_764) Ze) (Lf o_634)) (Nn o_256 (Lf o_43) (Lf o_700))) (Nn o_43 (Nn o_43 (Lf o_44) (Lf o_666)) (Nn o_44 (Lf o_510) (Lf o_732))))) (Nn o_59 (Nn o_44 (Nn o_43 (Nn o_43 (Nn o_312 (Lf o_756) Ze) (Lf o_44)) (Nn o_43 (Lf o_470) (Lf o_692))) (Nn o_148 (Nn o_216 (Lf o_43) (Lf o_658)) (Nn o_43 (Lf o_43) (Lf o_43)))) (Nn o_97 (Nn o_132 (Nn o_200 (Nn o_422 (Lf o_774) Ze) (Lf o_43)) (Nn o_264 (Lf o_44) (Lf o_44))) (Nn o_44 (Nn o_44 (Lf o_454) (Lf o_674)) (Nn o_296 (Lf o_43) (Lf o_740)))))) (Nn o_43 (Nn o_55 (Nn o_89 (Nn o_112 (Nn o_178 (Nn o_308 (Lf o_752) Ze) (Lf o_622)) (Nn o_244 (Lf o_43) (Lf o_43))) (Nn o_144 (Nn o_212 (Lf o_43) (Lf o_44)) (Nn o_43 (Lf o_498) (Lf o_720)))) (Nn o_44 (Nn o_43 (Nn o_43 (Nn o_418 (Lf o_770) Ze) (Lf o_638)) (Nn o_44 (Lf o_482) (Lf o_704))) (Nn o_162 (Nn o_228 (Lf o_450) (Lf o_43)) (Nn o_292 (Lf o_43) (Lf o_44))))) (Nn o_63 (Nn o_82 (Nn o_120 (Nn o_43 (Nn o_59 (Lf o_44) Ze) (Lf o_630)) (Nn o_43 (Lf o_44) (Lf o_44))) (Nn o_43 (Nn o_43 (Lf o_442) (Lf o_662)) (Nn o_284 (Lf o_506) (Lf o_43)))) (Nn o_89 (Nn o_44 (Nn o_44 (Nn o_426 (Lf o_778) Ze) (Lf o_43)) (Nn o_268 (Lf o_490) (Lf o_712))) (Nn o_170 (Nn o_236 (Lf o_458) (Lf o_678)) (Nn o_300 (Lf o_614) (Lf o_744))))))) (Nn boot_o_5 (Nn boot_o_9 (Nn o_53 (Nn o_69 (Nn o_110 (Nn o_176 (Nn o_306 (Lf o_44) Ze) (Lf o_620)) (Nn o_242 (Lf o_464) (Lf o_686))) (Nn o_43 (Nn o_43 (Lf o_44) (Lf o_652)) (Nn o_44 (Lf o_496) (Lf o_718)))) (Nn o_91 (Nn o_126 (Nn o_194 (Nn o_43 (Lf o_43) Ze) (Lf o_636)) (Nn o_258 (Lf o_480) (Lf o_43))) (Nn o_160 (Nn o_226 (Lf o_43) (Lf o_44)) (Nn o_43 (Lf o_59) (Lf o_734))))) (Nn o_43 (Nn o_80 (Nn o_118 (Nn o_186 (Nn o_314 (Lf o_758) Ze) (Lf o_43)) (Nn o_250 (Lf o_472) (Lf o_694))) (Nn o_44 (Nn o_44 (Lf o_440) (Lf o_43)) (Nn o_282 (Lf o_504) (Lf o_726)))) (Nn o_99 (Nn o_134 (Nn o_202 (Nn o_43 (Lf o_44) Ze) (Lf o_644)) (Nn o_43 (Lf o_43) (Lf o_43))) (Nn o_43 (Nn o_43 (Lf o_456) (Lf o_676)) (Nn o_298 (Lf o_612) (Lf o_43)))))) (Nn o_45 (Nn o_57 (Nn o_76 (Nn o_114 (Nn o_59 (Nn o_602 (Lf o_43) Ze) (Lf o_624)) (Nn o_44 (Lf o_468) (Lf o_690))) (Nn o_146 (Nn o_214 (Lf o_436) (Lf o_43)) (Nn o_278 (Lf o_44) (Lf o_44)))) (Nn o_95 (Nn o_130 (Nn o_198 (Nn o_420 (Lf o_772) Ze) (Lf o_44)) (Nn o_43 (Lf o_484) (Lf o_706))) (Nn o_164 (Nn o_230 (Lf o_43) (Lf o_672)) (Nn o_43 (Lf o_608) (Lf o_43))))) (Nn o_43 (Nn o_84 (Nn o_122 (Nn o_190 (Nn o_43 (Lf o_43) Ze) (Lf o_43)) (Nn o_254 (Lf o_476) (Lf o_43))) (Nn o_154 (Nn o_222 (Lf o_444) (Lf o_664)) (Nn o_286 (Lf o_508) (Lf o_730)))) (Nn o_106 (Nn o_43 (Nn o_43 (Lf o_428) (Lf o_648)) (Nn o_270 (Lf o_43) (Lf o_43))) (Nn o_43 (Nn o_43 (Lf o_44) (Lf o_44)) (Nn o_44 (Lf o_616) (Lf o_746)))))))) (Nn boot_o_2 (Nn boot_o_4 (Nn boot_o_8 (Nn o_44 (Nn o_68 (Nn o_109 (Nn o_43 (Nn o_305 (Lf o_43) Ze) (Lf o_44)) (Nn o_43 (Lf o_463) (Lf o_685))) (Nn o_141 (Nn o_209 (Lf o_43) (Lf o_651)) (Nn o_43 (Lf o_43) (Lf o_43)))) (Nn o_59 (Nn o_125 (Nn o_193 (Nn o_415 (Lf o_765) Ze) (Lf o_43)) (Nn o_257 (Lf o_44) (Lf o_701))) (Nn o_44 (Nn o_44 (Lf o_447) (Lf o_43)) (Nn o_289 (Lf o_409) (Lf o_733))))) (Nn o_60 (Nn o_79 (Nn o_44 (Nn o_185 (Nn o_313 (Lf o_757) Ze) (Lf o_627)) (Nn o_249 (Lf o_471) (Lf o_693))) (Nn o_43 (Nn o_43 (Lf o_44) (Lf o_659)) (Nn o_44 (Lf o_503) (Lf o_725)))) (Nn o_98 (Nn o_133 (Nn o_201 (Nn o_423 (Lf o_43) Ze) (Lf o_643)) (Nn o_265 (Lf o_487) (Lf o_709))) (Nn o_167 (Nn o_233 (Lf o_43) (Lf o_675)) (Nn o_43 (Lf o_44) (Lf o_741)))))) (Nn o_767 (Nn o_56 (Nn o_59 (Nn o_113 (Nn o_43 (Nn o_309 (Lf o_753) Ze) (Lf o_623)) (Nn o_43 (Lf o_44) (Lf o_44))) (Nn o_43 (Nn o_43 (Lf o_435) (Lf o_655)) (Nn o_277 (Lf o_43) (Lf o_43)))) (Nn o_94 (Nn o_44 (Nn o_44 (Nn o_43 (Lf o_43) Ze) (Lf o_43)) (Nn o_261 (Lf o_483) (Lf o_705))) (Nn o_163 (Nn o_229 (Lf o_451) (Lf o_671)) (Nn o_293 (Lf o_607) (Lf o_737))))) (Nn o_64 (Nn o_83 (Nn o_121 (Nn o_44 (Nn o_411 (Lf o_761) Ze) (Lf o_631)) (Nn o_44 (Lf o_475) (Lf o_697))) (Nn o_153 (Nn o_221 (Lf o_443) (Lf o_43)) (Nn o_285 (Lf o_507) (Lf o_44)))) (Nn o_59 (Nn o_137 (Nn o_205 (Nn o_43 (Lf o_779) Ze) (Lf o_44)) (Nn o_43 (Lf o_491) (Lf o_713))) (Nn o_171 (Nn o_237 (Lf o_43) (Lf o_43)) (Nn o_43 (Lf o_615) (Lf o_43))))))) (Nn boot_o_6 (Nn boot_o_10 (Nn o_43 (Nn o_70 (Nn o_43 (Nn o_177 (Nn o_307 (Lf o_751) Ze) (Lf o_43)) (Nn o_243 (Lf o_465) (Lf o_687))) (Nn o_44 (Nn o_44 (Lf o_433) (Lf o_43)) (Nn o_275 (Lf o_497) (Lf o_719)))) (Nn o_43 (Nn o_127 (Nn o_195 (Nn o_44 (Lf o_44) Ze) (Lf o_637)) (Nn o_43 (Lf o_43) (Lf o_44))) (Nn o_43 (Nn o_43 (Lf o_449) (Lf o_669)) (Nn o_291 (Lf o_605) (Lf o_43))))) (Nn o_44 (Nn o_43 (Nn o_43 (Nn o_187 (Nn o_409 (Lf o_43) Ze) (Lf o_629)) (Nn o_251 (Lf o_43) (Lf o_43))) (Nn o_151 (Nn o_219 (Lf o_43) (Lf o_44)) (Nn o_43 (Lf o_505) (Lf o_727)))) (Nn o_100 (Nn o_43 (Nn o_43 (Nn o_44 (Lf o_777) Ze) (Lf o_645)) (Nn o_44 (Lf o_489) (Lf o_711))) (Nn o_169 (Nn o_235 (Lf o_457) (Lf o_677)) (Nn o_299 (Lf o_43) (Lf o_44)))))) (Nn o_46 (Nn o_58 (Nn o_43 (Nn o_115 (Nn o_183 (Nn o_311 (Lf o_44) Ze) (Lf o_43)) (Nn o_247 (Lf o_43) (Lf o_43))) (Nn o_147 (Nn o_215 (Lf o_437) (Lf o_657)) (Nn o_279 (Lf o_501) (Lf o_723)))) (Nn o_43 (Nn o_43 (Nn o_43 (Nn o_421 (Lf o_773) Ze) (Lf o_641)) (Nn o_263 (Lf o_43) (Lf o_43))) (Nn o_43 (Nn o_43 (Lf o_44) (Lf o_673)) (Nn o_44 (Lf o_609) (Lf o_739))))) (Nn o_66 (Nn o_85 (Nn o_43 (Nn o_43 (Nn o_413 (Lf o_763) Ze) (Lf o_44)) (Nn o_43 (Lf o_477) (Lf o_699))) (Nn o_155 (Nn o_223 (Lf o_43) (Lf o_665)) (Nn o_43 (Lf o_509) (Lf o_43)))) (Nn o_43 (Nn o_139 (Nn o_207 (Lf o_429) (Lf o_43)) (Nn o_271 (Lf o_44) (Lf o_44))) (Nn o_44 (Nn o_44 (Lf o_461) (Lf o_683)) (Nn o_303 (Lf o_617) (Lf o_747))))))))
abbrev pr:Program:=(PySem.Challenge.rw_leastasked_k08_whole_one_row).row.prog
def ev:Env:={ scope:=pr.main.scope, locals:=mainNs, globals:=mainNs, cells:=[], code:=Value.ref 13, frame:=some 14 }
abbrev cd:Code:=.body (behindTheImports pr) ev
abbrev z0:Pos:={ line:=0, col:=0, endLine:=0, endCol:=0 }
def l1:List Stmt:=[top 0, top 1, top 2, top 3, top 4]
def l2:List Stmt:=[top 5, top 6, top 7, top 8, top 9, top 10, top 11, top 12, top 13, top 14, top 15, top 16, top 17]
def l3:List Stmt:=[top 18, top 19]
def l4:List Stmt:=[top 20, top 21]
def l5:List Stmt:=[top 22, top 23, top 24, top 25, top 26, top 27, top 28, top 29, top 30, top 31, top 32, top 33, top 34, top 35, top 36, top 37, top 38]
theorem lAll:behindTheImports pr = l1 ++ (l2 ++ (l3 ++ (l4 ++ (l5 ++ ([]))))):=by kernel_rfl
set_option maxHeartbeats 0 in
theorem g0 (w:World):(fun os=>topGo treeTable pr w 11 (some (Value.ref 6)) 12 { heap:=boot_heap w.params, drawn:=boot_drawn, toks:=boot_toks, os:=os } (topStub pr)) = fun os=>some ({ heap:=h0 w.params, toks:=187, os:=os }, { cur:=denote treeTable cd, code:=cd, pos:=z0, stack:=[topFrame z0] }):=by kernel_rfl
set_option maxHeartbeats 0 in
theorem b0 (w:World):(fun os=>segRun treeTable pr w 11 (some (Value.ref 6)) 1 1 { heap:=h0 w.params, toks:=187, os:=os } (blockOf (behindTheImports pr) ev cd z0 [topFrame z0])) = fun os=>some (Flow.next, ({ tree:=t0 w.params, n:=15, life:={}, gens:=#[], drawn:={}, toks:=187, os:=os }:SharedT).abs, cd, z0):=by kernel_rfl
set_option maxHeartbeats 0 in
theorem s1 (w:World):(fun os=>segRunT treeTable pr w 11 (some (Value.ref 6)) 1 653 { tree:=t0 w.params, n:=15, life:={}, gens:=#[], drawn:={}, toks:=187, os:=os } (piecesOf l1 ev cd z0 [topFrame z0])) = fun os=>some (Flow.next, { tree:=t1 w.params, n:=59, life:={}, gens:=#[], drawn:={}, toks:=246, os:=os }, cd, ⟨9, 0, 10, 8⟩):=by kernel_rfl
set_option maxHeartbeats 0 in
theorem s2 (w:World):(fun os=>segRunT treeTable pr w 11 (some (Value.ref 6)) 1 509 { tree:=t1 w.params, n:=59, life:={}, gens:=#[], drawn:={}, toks:=246, os:=os } (piecesOf l2 ev cd ⟨9, 0, 10, 8⟩ [topFrame z0])) = fun os=>some (Flow.next, { tree:=t2 w.params, n:=132, life:={}, gens:=#[], drawn:={}, toks:=339, os:=os }, cd, ⟨47, 0, 47, 8⟩):=by kernel_rfl
set_option maxHeartbeats 0 in
theorem s3 (w:World):(fun os=>segRunT treeTable pr w 11 (some (Value.ref 6)) 1 760 { tree:=t2 w.params, n:=132, life:={}, gens:=#[], drawn:={}, toks:=339, os:=os } (piecesOf l3 ev cd ⟨47, 0, 47, 8⟩ [topFrame z0])) = fun os=>some (Flow.next, { tree:=t3 w.params, n:=266, life:={}, gens:=#[], drawn:={}, toks:=512, os:=os }, cd, ⟨133, 0, 133, 8⟩):=by kernel_rfl
set_option maxHeartbeats 0 in
theorem s4 (w:World):(fun os=>segRunT treeTable pr w 11 (some (Value.ref 6)) 1 646 { tree:=t3 w.params, n:=266, life:={}, gens:=#[], drawn:={}, toks:=512, os:=os } (piecesOf l4 ev cd ⟨133, 0, 133, 8⟩ [topFrame z0])) = fun os=>some (Flow.next, { tree:=t4 w.params, n:=368, life:={}, gens:=#[], drawn:={}, toks:=642, os:=os }, cd, ⟨206, 0, 206, 8⟩):=by kernel_rfl
set_option maxHeartbeats 0 in
theorem s5 (w:World):(fun os=>segRunT treeTable pr w 11 (some (Value.ref 6)) 1 971 { tree:=t4 w.params, n:=368, life:={}, gens:=#[], drawn:={}, toks:=642, os:=os } (piecesOf l5 ev cd ⟨206, 0, 206, 8⟩ [topFrame z0])) = fun os=>some (Flow.next, { tree:=t5 w.params, n:=541, life:={}, gens:=#[], drawn:={}, toks:=868, os:=os }, cd, ⟨342, 0, 370, 148⟩):=by kernel_rfl
def h1:Params -> Heap:=fun P=>({ tree:=t5 P, n:=541, life:={}, gens:=#[], drawn:={}, toks:=868, os:=default }:SharedT).abs.heap
set_option maxHeartbeats 0 in
theorem e0 (w:World) (os:OsState):topRun treeTable pr w 11 (some (Value.ref 6)) 2 ({ tree:=t5 w.params, n:=541, life:={}, gens:=#[], drawn:={}, toks:=868, os:=os }:SharedT).abs (restOf [] ev cd ⟨342, 0, 370, 148⟩ [topFrame z0]) = some { heap:=h1 w.params, toks:=868, os:=os }:=piece_nil (by kernel_rfl)
theorem run1 (w:World) (os:OsState):topRun treeTable pr w 11 (some (Value.ref 6)) (653 + (509 + (760 + (646 + (971 + (2)))))) ({ tree:=t0 w.params, n:=15, life:={}, gens:=#[], drawn:={}, toks:=187, os:=os }:SharedT).abs (restOf (l1 ++ (l2 ++ (l3 ++ (l4 ++ (l5 ++ ([])))))) ev cd z0 [topFrame z0]) = some { heap:=h1 w.params, toks:=868, os:=os }:=piece_app (segRun_of (congrFun (s1 w) os)) (piece_app (segRun_of (congrFun (s2 w) os)) (piece_app (segRun_of (congrFun (s3 w) os)) (piece_app (segRun_of (congrFun (s4 w) os)) (piece_app (segRun_of (congrFun (s5 w) os)) (e0 w os)))))
theorem run0 (w:World) (os:OsState):topRun treeTable pr w 11 (some (Value.ref 6)) (12 + (1 + (653 + (509 + (760 + (646 + (971 + (2)))))))) { heap:=boot_heap w.params, drawn:=boot_drawn, toks:=boot_toks, os:=os } (topStub pr) = some { heap:=h1 w.params, toks:=868, os:=os }:=by
 refine go_top (congrFun (g0 w) os) (piece_block (congrFun (b0 w) os) ?_)
 rw [lAll]
 exact run1 w os
set_option maxHeartbeats 0 in
theorem q0 (w:World):Option.map (fun s=>(s.heap, s.gens, s.drawn, s.toks)) (fencedOpening treeTable pr w 7208) = some (boot_heap w.params, #[], boot_drawn, boot_toks):=by kernel_rfl
set_option maxHeartbeats 0 in
theorem q1 (w:World):((boot_heap w.params).isNs mainGlobals && (#[]:Array GenState).size == 0, (boot_heap w.params).objs.size, (boot_heap w.params).nsMap mainGlobals (Str.ofString "__annotations__")) = (true, 11, some (Value.ref 6)):=by kernel_rfl
set_option maxHeartbeats 0 in
theorem q2 (w:World):(fun os=>staticsOk (importedModules pr.main.body) (boot_heap w.params) (h1 w.params) && namesBound pr (h1 w.params) && gensDone ({ heap:=h1 w.params, gens:=#[], drawn:={}, toks:=868, os:=os }:Shared) && laidKept (boot_heap w.params) (h1 w.params)) = fun _=>true:=by kernel_rfl
set_option maxHeartbeats 0 in
theorem q3 (w:World):(fun os=>openSeen view ["Row", "Shelf"] (importedModules pr.main.body) seenX true { heap:=h1 w.params, gens:=#[], drawn:={}, toks:=868, os:=os }) = fun _=>openGood view ["Row", "Shelf"]:=by kernel_rfl
set_option maxHeartbeats 0 in
theorem q4 (w:World):(fun os=>hook.obs { heap:=h1 w.params, gens:=#[], drawn:={}, toks:=868, os:=os }) = fun _=>hook.val w:=by kernel_rfl
theorem left:LeftO pr view ["Row", "Shelf"] seenX hook.obs hook.val 7208:=
 LeftO.of_pieces (H₀:=fun P=>boot_heap P) (H₁:=h1) (gs₀:=#[]) (gs₁:=#[]) (d₀:=boot_drawn) (d₁:={}) (k₀:=boot_toks) (k₁:=868) (m₀:=11) (ann:=some (Value.ref 6)) (M:=12 + (1 + (653 + (509 + (760 + (646 + (971 + (2)))))))) q0 q1 run0 (by decide)
  fun w=>funext fun os=>looks_pair (congrFun (q2 w) os) (looks_pair (congrFun (q3 w) os) (congrFun (q4 w) os))
end
end Lk

namespace L2
open PySem PySem.Spec PyProof.Rows
abbrev Key:=Sum Int Str
def keyIs:Key -> Value -> Bool
 | .inl k, v=>Value.isInt k v
 | .inr x, v=>Value.isStrOf x v
def keyH (w:World):Key -> Int
 | .inl k=>hashInt k
 | .inr x=>hashStr w x
theorem keyIs_shape:∀ {k:Key} {v:Value}, keyIs k v = true -> (∃ i t, k = Sum.inl i ∧ v = Value.int i t) ∨ (∃ x t, k = Sum.inr x ∧ v = Value.str x t)
 | .inl i, v, h=>by
   obtain ⟨t, e⟩:=Value.isInt_shape (k:=i) (v:=v) h
   exact .inl ⟨i, t, rfl, e⟩
 | .inr x, v, h=>by
   obtain ⟨t, e⟩:=Value.isStrOf_shape (x:=x) (v:=v) h
   exact .inr ⟨x, t, rfl, e⟩
theorem keyIs_int (i:Int) (t:Tok):keyIs (.inl i) (.int i t) = true:=by simp [keyIs, Value.isInt]
theorem keyIs_str (x:Str) (t:Tok):keyIs (.inr x) (.str x t) = true:=by simp [keyIs, Value.isStrOf]
theorem key_ll (a b:Int):decide ((Sum.inl a:Key) = Sum.inl b) = (a == b):=by
 by_cases e:a = b
 ·subst e; simp
 ·have h:¬ (Sum.inl a:Key) = Sum.inl b:=fun q=>e (Sum.inl.inj q)
  rw [decide_eq_false h]
  exact (beq_eq_false_iff_ne.mpr e).symm
theorem key_rr (a b:Str):decide ((Sum.inr a:Key) = Sum.inr b) = decide (a = b):=by
 by_cases e:a = b
 ·subst e; simp
 ·have h:¬ (Sum.inr a:Key) = Sum.inr b:=fun q=>e (Sum.inr.inj q)
  rw [decide_eq_false h, decide_eq_false e]
theorem key_lr (a:Int) (b:Str):decide ((Sum.inl a:Key) = Sum.inr b) = false:=decide_eq_false (fun q=>nomatch q)
theorem key_rl (a:Str) (b:Int):decide ((Sum.inr a:Key) = Sum.inl b) = false:=decide_eq_false (fun q=>nomatch q)
def mixKind (prog:Program) (w:World):PySem.KeyKind prog w Key where
 is:=keyIs
 hash:=keyH w
 inj:=fun v a b ha hb=>by
  rcases keyIs_shape ha with ⟨i, t, rfl, rfl⟩ | ⟨x, t, rfl, rfl⟩
  ·rcases keyIs_shape hb with ⟨j, u, rfl, e⟩ | ⟨y, u, rfl, e⟩
   ·injection e with e1 _; rw [e1]
   ·exact nomatch e
  ·rcases keyIs_shape hb with ⟨j, u, rfl, e⟩ | ⟨y, u, rfl, e⟩
   ·exact nomatch e
   ·injection e with e1 _; rw [e1]
 byValue:=fun k v h=>by
  rcases keyIs_shape h with ⟨i, t, rfl, rfl⟩ | ⟨x, t, rfl, rfl⟩ <;> rfl
 pyHash:=fun hv h=>by
  rcases keyIs_shape hv with ⟨i, t, rfl, rfl⟩ | ⟨x, t, rfl, rfl⟩
  ·exact wpAny_pyHash_int h
  ·exact wpAny_pyHash_str h
 eqBool:=fun hu hv h=>by
  rcases keyIs_shape hu with ⟨i, t, rfl, rfl⟩ | ⟨x, t, rfl, rfl⟩
  ·rcases keyIs_shape hv with ⟨j, u, rfl, rfl⟩ | ⟨y, u, rfl, rfl⟩
   ·rw [key_ll] at h; exact wpAny_eqBool_int h
   ·rw [key_lr] at h; exact SeqAt.EqAt.int_str i t y u _ _ _ _ h
  ·rcases keyIs_shape hv with ⟨j, u, rfl, rfl⟩ | ⟨y, u, rfl, rfl⟩
   ·rw [key_rl] at h; exact SeqAt.EqAt.str_int x t j u _ _ _ _ h
   ·rw [key_rr] at h; exact wpAny_eqBool_str h
 «strs»:=fun k x t v h=>by
  rcases keyIs_shape h with ⟨i, u, rfl, e⟩ | ⟨y, u, rfl, e⟩
  ·exact nomatch e
  ·injection e with e1 _
   subst e1
   cases v <;> rfl
theorem mixKind_int (prog:Program) (w:World) (i:Int) (t:Tok):(mixKind prog w).is (.inl i) (.int i t) = true:=keyIs_int i t
theorem mixKind_str (prog:Program) (w:World) (x:Str) (t:Tok):(mixKind prog w).is (.inr x) (.str x t) = true:=keyIs_str x t
end L2
namespace L2
open PySem PySem.Spec PyProof.Rows
inductive V where
 | non | bl (b:Bool) | int (i:Int) | str (x:Str) | byt (b:Array UInt8) | flt (b:UInt64) | ref (a:Addr) | ty (n:String)
 deriving DecidableEq
def RelV:V -> Value -> Prop
 | .non, u=>u = Value.none
 | .bl b, u=>u = Value.bool b
 | .int i, u=>∃ t, u = Value.int i t
 | .str x, u=>∃ t, u = Value.str x t
 | .byt b, u=>∃ t, u = Value.bytes b t
 | .flt b, u=>∃ t, u = Value.float b t
 | .ref a, u=>u = Value.ref a
 | .ty n, u=>u = Value.type n
abbrev Vals:List V -> List Value -> Prop:=Paired RelV
theorem Vals.length {xs:List V} {us:List Value} (r:Vals xs us):xs.length = us.length:=Paired.length r
theorem Vals.get:∀ {xs:List V} {us:List Value} {i:Nat} {x:V}, Vals xs us -> xs[i]? = some x -> ∃ u, us[i]? = some u ∧ RelV x u
 | _, _, _, _, .nil, e=>by simp at e
 | _, _, 0, _, .cons r _, e=>by simp at e; subst e; exact ⟨_, rfl, r⟩
 | _, _, i + 1, x, .cons _ t, e=>by
   obtain ⟨u, h1, h2⟩:=Vals.get (i:=i) (x:=x) t (by simpa using e)
   exact ⟨u, by simpa using h1, h2⟩
theorem Vals.set {x:V} {u:Value} (r:RelV x u):∀ {xs:List V} {us:List Value} (i:Nat), Vals xs us -> Vals (xs.set i x) (us.set i u)
 | _, _, _, .nil=>.nil
 | _, _, 0, .cons _ t=>.cons r t
 | _, _, i + 1, .cons q t=>.cons q (Vals.set r i t)
theorem Vals.append:∀ {xs ys:List V} {us ws:List Value}, Vals xs us -> Vals ys ws -> Vals (xs ++ ys) (us ++ ws)
 | _, _, _, _, .nil, s=>s
 | _, _, _, _, .cons r t, s=>.cons r (Vals.append t s)
theorem Vals.take:∀ {xs:List V} {us:List Value} (n:Nat), Vals xs us -> Vals (xs.take n) (us.take n)
 | _, _, 0, _=>.nil
 | _, _, _ + 1, .nil=>.nil
 | _, _, n + 1, .cons r t=>.cons r (Vals.take n t)
theorem Vals.drop:∀ {xs:List V} {us:List Value} (n:Nat), Vals xs us -> Vals (xs.drop n) (us.drop n)
 | _, _, 0, r=>r
 | _, _, _ + 1, .nil=>.nil
 | _, _, n + 1, .cons _ t=>Vals.drop n t
def RelO:Option V -> Option Value -> Prop
 | some v, some u=>RelV v u
 | none, none=>True
 | _, _=>False
def KV {κ:Type}:List (κ × V) -> List (κ × Value) -> Prop:=Paired fun (p:κ × V) (q:κ × Value)=>p.1 = q.1 ∧ RelV p.2 q.2
def kV:Key -> V
 | .inl i=>.int i
 | .inr x=>.str x
inductive HO where
  | lst (xs:List V)
  | tup (xs:List V)
  | dK (kvs:List (Key × V)) | dT (kvs:List (List Key × V))
  | set (S:Int -> Bool) (n:Nat)
  | ins (C dx:Addr) (fs:List (Str × V))
  | own (x:Addr)
  | xd (fs:List (Str × V))
  | met (f x:Addr)
  | rng (lo hi:Int)
  | frz (o:Obj) (u:HO)
  | tbl (ps:Array Value)
  | ext (φ:Heap -> Prop)
abbrev Hp:=Addr -> Option HO
def upd (H:Hp) (a:Addr) (o:HO):Hp:=fun b=>if b = a then some o else H b
theorem upd_same {H:Hp} {a:Addr} {o:HO}:upd H a o a = some o:=by unfold upd; rw [if_pos rfl]
theorem upd_ne {H:Hp} {a b:Addr} {o:HO} (h:b ≠ a):upd H a o b = H b:=by unfold upd; rw [if_neg h]
theorem upd_upd {H:Hp} {a:Addr} {o u:HO}:upd (upd H a o) a u = upd H a u:=by
 funext b; unfold upd; split <;> rfl
theorem ne_of {H:Hp} {a b:Addr} {o u:HO} (h:H a = some o) (h':H b = some u) (d:o ≠ u):a ≠ b:=by
 intro e; subst e; rw [h] at h'; exact d (Option.some.inj h')
theorem ne_of_none {H:Hp} {a b:Addr} {o:HO} (h:H a = some o) (h':H b = none):a ≠ b:=by
 intro e; subst e; rw [h] at h'; cases h'
section
variable (P:Program) (w:World)
def ObjOk (H:Hp) (h:Heap) (a:Addr):HO -> Prop
 | .lst xs=>xs.length ≤ sizeLine ∧ ∃ (its:List Value) (n:Nat), Vals xs its ∧ h.get? a = some { cls:=.type "list", data:=.seq its.toArray n }
 | .tup xs=>xs.length ≤ sizeLine ∧ ∃ its:List Value, Vals xs its ∧ IsTup h a its.toArray
 | .dK kvs=>kvs.length ≤ sizeLine ∧ (a == sysModules) = false ∧ ∃ vs, KV kvs vs ∧ h.DictOf (mixKind P w) a vs
 | .dT kvs=>kvs.length ≤ sizeLine ∧ (a == sysModules) = false ∧ ∃ xs:List (List Key × Addr × Value),
    Paired (fun (p:List Key × V) (q:List Key × Addr × Value)=>p.1 = q.1 ∧ H q.2.1 = some (.tup (p.1.map kV)) ∧ RelV p.2 q.2.2) kvs xs ∧
    ∃ o es ep, h.get? a = some o ∧ o.ExactDict ∧ o.data = .dict es ep ∧ es.toList = xs.map (entryOfKey (tupleKind (mixKind P w))) ∧ (xs.map (·.1)).Nodup
 | .set S n=>h.SetOf (intKind P w) a S n
 | .ins C dx fs=>H dx = some (.own a) ∧ fs.length ≤ 1000 ∧ dx ≠ a ∧ h.get? a = some (PySem.W.instObj C dx) ∧
    ∃ mA, h.Ns1 dx mA ∧ (∀ f, RelO (fs.lookup f) (mA f)) ∧ PySem.Within mA (fs.map (·.1))
 | .own _=>∃ o, h.get? a = some o
 | .xd fs=>∃ mA, h.Ns1 a mA ∧ ∀ f, RelO (fs.lookup f) (mA f)
 | .rng lo hi=>∃ t u v, h.get? a = some { cls:=.type "range", data:=.fields #[.int lo t, .int hi u, .int 1 v] }
 | .frz o u=>h.get? a = some o ∧ ObjOk H h a u
 | .tbl ps=>h.get? a = some { cls:=.none, data:=.fields ps }
 | .met f x=>h.get? a = some (PySem.W.methodObj (.ref f) (.ref x))
 | .ext φ=>φ h ∧ (∃ o, h.get? a = some o) ∧ ∀ h1 h2:Heap, φ h1 -> (∀ o, h1.get? a = some o -> h2.get? a = some o) -> φ h2
def HOk (H:Hp) (h:Heap):Prop:=∀ a o, H a = some o -> ObjOk P w H h a o
end
section
variable {P:Program} {w:World} {H H':Hp} {h h':Heap} {a:Addr} {o:HO}
theorem ObjOk.lt (x:ObjOk P w H h a o):a < h.objs.size:=by
 cases o with
 | lst xs=>obtain ⟨_, _, _, _, e⟩:=x; exact Heap.lt_size e
 | tup xs=>obtain ⟨_, _, _, p⟩:=x; exact p.lt
 | dK kvs=>obtain ⟨_, _, _, _, o, _, _, e, _⟩:=x; exact Heap.lt_size e
 | dT kvs=>obtain ⟨_, _, _, _, o, _, _, e, _⟩:=x; exact Heap.lt_size e
 | set S n=>obtain ⟨o, _, _, _, e, _⟩:=x; exact Heap.lt_size e
 | ins C dx fs=>obtain ⟨_, _, _, e, _⟩:=x; exact Heap.lt_size e
 | own y=>obtain ⟨_, e⟩:=x; exact Heap.lt_size e
 | xd fs=>obtain ⟨_, ⟨_, _, _, e, _⟩, _⟩:=x; exact Heap.lt_size e
 | rng lo hi=>obtain ⟨_, _, _, e⟩:=x; exact Heap.lt_size e
 | frz ob u=>obtain ⟨e, _⟩:=x; exact Heap.lt_size e
 | tbl ps=>exact Heap.lt_size (show h.get? a = some _ from x)
 | met f y=>exact Heap.lt_size (show h.get? a = some _ from x)
 | ext φ=>obtain ⟨_, ⟨_, e⟩, _⟩:=x; exact Heap.lt_size e
theorem Paired.mapP {α β:Type} {F G:α -> β -> Prop}:∀ {l₁:List α} {l₂:List β}, Paired F l₁ l₂ -> (∀ a b, F a b -> G a b) -> Paired G l₁ l₂
 | _, _, .nil, _=>.nil
 | _, _, .cons r t, f=>.cons (f _ _ r) (Paired.mapP t f)
theorem ObjOk.stay (x:ObjOk P w H h a o) (k:∀ b u, (b = a ∨ H b = some (.own a)) -> h.get? b = some u -> h'.get? b = some u)
  (ho:∀ b, H b = some (.own a) -> H' b = some (.own a)) (ht:∀ b xs, H b = some (.tup xs) -> H' b = some (.tup xs)):ObjOk P w H' h' a o:=by
 induction o with
 | lst xs=>obtain ⟨z, its, n, r, e⟩:=x; exact ⟨z, its, n, r, k _ _ (.inl rfl) e⟩
 | tup xs=>obtain ⟨z, its, r, ob, e, c⟩:=x; exact ⟨z, its, r, ob, k _ _ (.inl rfl) e, c⟩
 | dK kvs=>obtain ⟨z, y, vs, r, ob, es, ep, e, c⟩:=x; exact ⟨z, y, vs, r, ob, es, ep, k _ _ (.inl rfl) e, c⟩
 | dT kvs=>
   obtain ⟨z, y, xs, r, ob, es, ep, e, c⟩:=x
   exact ⟨z, y, xs, Paired.mapP r fun p q z=>⟨z.1, ht _ _ z.2.1, z.2.2⟩, ob, es, ep, k _ _ (.inl rfl) e, c⟩
 | set S n=>obtain ⟨ob, es, ep, t, e, c⟩:=x; exact ⟨ob, es, ep, t, k _ _ (.inl rfl) e, c⟩
 | ins C dx fs=>
   obtain ⟨d, z, ne, e, mA, ⟨od, es, ep, e2, c⟩, r⟩:=x
   exact ⟨ho _ d, z, ne, k _ _ (.inl rfl) e, mA, ⟨od, es, ep, k _ _ (.inr d) e2, c⟩, r⟩
 | own y=>obtain ⟨ob, e⟩:=x; exact ⟨ob, k _ _ (.inl rfl) e⟩
 | xd fs=>obtain ⟨mA, ⟨od, es, ep, e, c⟩, r⟩:=x; exact ⟨mA, ⟨od, es, ep, k _ _ (.inl rfl) e, c⟩, r⟩
 | rng lo hi=>obtain ⟨t, u, v, e⟩:=x; exact ⟨t, u, v, k _ _ (.inl rfl) e⟩
 | frz ob u ih=>obtain ⟨e, q⟩:=x; exact ⟨k _ _ (.inl rfl) e, ih q⟩
 | tbl ps=>
   have e:h.get? a = some { cls:=.none, data:=.fields ps }:=x
   show h'.get? a = some { cls:=.none, data:=.fields ps }
   exact k a _ (.inl rfl) e
 | met f y=>
   have e:h.get? a = some (PySem.W.methodObj (.ref f) (.ref y)):=x
   show h'.get? a = some (PySem.W.methodObj (.ref f) (.ref y))
   exact k a _ (.inl rfl) e
 | ext φ=>obtain ⟨p, ⟨o, e⟩, st⟩:=x; exact ⟨st _ _ p fun o q=>k _ _ (.inl rfl) q, ⟨o, k _ _ (.inl rfl) e⟩, st⟩
theorem HOk.lt (x:HOk P w H h) (e:H a = some o):a < h.objs.size:=(x a o e).lt
theorem HOk.fresh (x:HOk P w H h) (e:h.objs.size ≤ a):H a = none:=by
 cases q:H a with
 | none=>rfl
 | some u=>exact absurd (Nat.lt_of_lt_of_le (x.lt q) e) (Nat.lt_irrefl _)
theorem HOk.kept (x:HOk P w H h) (k:∀ b u, h.get? b = some u -> h'.get? b = some u):HOk P w H h':=fun a o e=>
 (x a o e).stay (fun b u _ q=>k b u q) (fun _ q=>q) fun _ _ q=>q
theorem HOk.laid (x:HOk P w H h) (k:∀ b u, h.get? b = some u -> h'.get? b = some u) (hp:h.objs.size ≤ a) (new:ObjOk P w (upd H a o) h' a o):HOk P w (upd H a o) h':=fun b u e=>by
 have hn:=x.fresh hp
 by_cases hb:b = a
 ·subst hb; rw [upd_same] at e; cases e; exact new
 ·rw [upd_ne hb] at e
  exact (x b u e).stay (fun c v _ q=>k c v q) (fun c q=>by rw [upd_ne (ne_of_none q hn)]; exact q) fun c xs q=>by rw [upd_ne (ne_of_none q hn)]; exact q
end
def Rd (H:Hp) (a:Addr) (u:HO):Prop:=H a = some u ∨ ∃ o, H a = some (.frz o u)
theorem Rd.ok {P:Program} {w:World} {H:Hp} {h:Heap} {a:Addr} {u:HO} (r:Rd H a u) (x:HOk P w H h):ObjOk P w H h a u:=by
 rcases r with r | ⟨o, r⟩
 ·exact x a u r
 ·obtain ⟨_, q⟩:=x a _ r
  exact q
def Mut:Option HO -> Prop
 | some (.lst _)=>True
 | some (.dK _)=>True
 | some (.dT _)=>True
 | some (.set _ _)=>True
 | some (.ins _ _ _)=>True
 | some (.ext _)=>True
 | _=>False
section
variable {P:Program} {w:World} {H:Hp} {h h':Heap} {x e:Addr} {o':HO}
theorem HOk.write (ok:HOk P w H h) (mu:Mut (H x)) (he:e = x ∨ H e = some (.own x)) (k:∀ b u, b ≠ e -> h.get? b = some u -> h'.get? b = some u) (heo:∃ u, h'.get? e = some u)
  (new:ObjOk P w (upd H x o') h' x o'):HOk P w (upd H x o') h':=fun b u q=>by
 have nown:∀ c y, H c = some (.own y) -> c ≠ x:=fun c y r z=>by subst z; rw [r] at mu; exact mu
 have ntup:∀ c xs, H c = some (.tup xs) -> c ≠ x:=fun c xs r z=>by subst z; rw [r] at mu; exact mu
 by_cases hb:b = x
 ·subst hb; rw [upd_same] at q; cases q; exact new
 ·rw [upd_ne hb] at q
  by_cases hbe:b = e
  ·have q':H b = some (.own x):=by
    rcases he with z | z
    ·exact absurd (hbe.trans z) hb
    ·rw [hbe]; exact z
   rw [q] at q'; cases q'
   obtain ⟨v, hv⟩:=heo
   exact ⟨v, by rw [hbe]; exact hv⟩
  ·refine (ok b u q).stay (fun c v hc r=>k c v ?_ r) (fun c r=>by rw [upd_ne (nown c b r)]; exact r) fun c xs r=>by rw [upd_ne (ntup c xs r)]; exact r
   rcases hc with rfl | hc
   ·exact hbe
   ·rintro rfl
    rcases he with z | z
    ·exact nown c b hc z
    ·rw [hc] at z; cases z; exact hb rfl
end
structure Un (fs ex:List Addr) (H H':Hp) (h h':Heap):Prop where
 keep:∀ b o, h.get? b = some o -> H b = none -> b ∉ fs -> b ∉ ex -> h'.get? b = some o
 slot:∀ b o, h.get? b = some o -> H b = none -> b ∈ fs -> b ∉ ex -> ∃ sl, h'.get? b = some { o with slots:=sl }
 free:∀ b o, h.get? b = some o -> H b = none -> b ∉ ex -> H' b = none
 there:∀ b o, h.get? b = some o -> b ∉ ex -> ∃ o', h'.get? b = some o'
 tups:∀ b xs, H b = some (.tup xs) -> H' b = some (.tup xs)
 frzs:∀ b o u, H b = some (.frz o u) -> H' b = some (.frz o u)
 tbls:∀ b ps, H b = some (.tbl ps) -> ∃ more, H' b = some (.tbl (ps ++ more))
section
variable {fs fs' ex ex':List Addr} {H H1 H2:Hp} {h h1 h2 h':Heap} {a x e:Addr} {o:HO}
theorem Un.any (u:Un fs ex H H1 h h1) {b:Addr} {ob:Obj} (q:h.get? b = some ob) (n:H b = none) (hx:b ∉ ex):∃ sl, h1.get? b = some { ob with slots:=sl }:=by
 by_cases hb:b ∈ fs
 ·exact u.slot b ob q n hb hx
 ·exact ⟨ob.slots, u.keep b ob q n hb hx⟩
theorem Un.kept (k:∀ b u, h.get? b = some u -> h'.get? b = some u):Un fs ex H H h h':=
 ⟨fun b ob q _ _ _=>k b ob q, fun b ob q _ _ _=>⟨ob.slots, k b ob q⟩, fun _ _ _ n _=>n, fun b ob q _=>⟨ob, k b ob q⟩, fun _ _ q=>q, fun _ _ _ q=>q, fun _ ps q=>⟨#[], by rw [q]; simp⟩⟩
theorem Un.refl:Un fs ex H H h h:=Un.kept fun _ _ q=>q
theorem Un.laid (k:∀ b u, h.get? b = some u -> h'.get? b = some u) (hp:h.objs.size ≤ a) (hn:H a = none):Un fs ex H (upd H a o) h h' where
 keep:=fun b u q _ _ _=>k b u q
 slot:=fun b u q _ _ _=>⟨u.slots, k b u q⟩
 free:=fun b u q n _=>by rw [upd_ne (Nat.ne_of_lt (Nat.lt_of_lt_of_le (Heap.lt_size q) hp))]; exact n
 there:=fun b u q _=>⟨u, k b u q⟩
 tups:=fun b xs q=>by rw [upd_ne (ne_of_none q hn)]; exact q
 frzs:=fun b u xs q=>by rw [upd_ne (ne_of_none q hn)]; exact q
 tbls:=fun b ps q=>⟨#[], by rw [upd_ne (ne_of_none q hn), q]; simp⟩
theorem Un.write (mu:Mut (H x)) (he:e = x ∨ H e = some (.own x)) (k:∀ b u, b ≠ e -> h.get? b = some u -> h'.get? b = some u) (heo:∃ u, h'.get? e = some u):Un fs ex H (upd H x o) h h':=by
 have hx:∀ b, H b = none -> b ≠ x:=fun b n z=>by subst z; rw [n] at mu; exact mu
 have hb:∀ b, H b = none -> b ≠ e:=fun b n z=>by
  subst z
  rcases he with r | r
  ·exact hx b n r
  ·rw [n] at r; cases r
 have hm:∀ b u, H b = some u -> ¬ Mut (some u) -> b ≠ x:=fun b u q nm z=>by subst z; rw [q] at mu; exact nm mu
 refine ⟨fun b u q n _ _=>k b u (hb b n) q, fun b u q n _ _=>⟨u.slots, k b u (hb b n) q⟩, fun b u q n _=>by rw [upd_ne (hx b n)]; exact n, fun b u q _=>?_,
  fun b xs q=>by rw [upd_ne (hm b _ q fun z=>z)]; exact q, fun b u xs q=>by rw [upd_ne (hm b _ q fun z=>z)]; exact q, fun b ps q=>⟨#[], by rw [upd_ne (hm b _ q fun z=>z), q]; simp⟩⟩
 by_cases hbe:b = e
 ·subst hbe; exact heo
 ·exact ⟨u, k b u hbe q⟩
end
def trk (h:Heap) (H:Hp):List Addr:=(List.range h.objs.size).filter fun a=>(H a).isSome
def hidT (h:Heap) (H:Hp):Heap:=PySem.W.hideAll h (trk h H)
theorem hidT_size (h:Heap) (H:Hp):(hidT h H).objs.size = h.objs.size:=PySem.W.hideAll_size _ _
theorem hidT_get {h:Heap} {H:Hp} {b:Addr} {o:Obj} (e:h.get? b = some o) (n:H b = none):(hidT h H).get? b = some o:=
 PySem.W.hideAll_get _ e fun hm=>by
  have q:(H b).isSome = true:=(List.mem_filter.mp hm).2
  rw [n] at q; simp at q
theorem of_hidT {h:Heap} {H:Hp} {b:Addr} {o:Obj} (e:(hidT h H).get? b = some o):h.get? b = some o ∧ H b = none:=by
 have e':h.get? b = some o:=PySem.W.of_hideAll (trk h H) e
 refine ⟨e', ?_⟩
 cases q:H b with
 | none=>rfl
 | some x=>
   have hm:b ∈ trk h H:=List.mem_filter.mpr ⟨List.mem_range.mpr (Heap.lt_size e'), by simp [q]⟩
   have z:(hidT h H).get? b = none:=PySem.W.hideAll_none (trk h H) hm
   rw [z] at e; cases e
end L2
namespace L2
open PySem PySem.Spec PyProof.Rows
structure Mod (K:PySem.W.Frag) (mg:Str -> Option Value) (base:Heap):Prop where
 kin:K.In base
 glob:base.Ns mainGlobals mg
 blt:∃ mb, base.Ns builtinsNs mb ∧ ∀ x:Str, x ≠ "__name__" -> mb x = bootBuiltins x
 nolimit:base.NoLimit
structure Cx where
 prog:Program
 w:World
 K:PySem.W.Frag
 mg:Str -> Option Value
 base:Heap
 A:Around
 N:List Str
 s₀:Shared
 H₀:Hp
 env:Env
 outer:List Env
 stack:List Env
 ex:List Addr
 fn:Str -> Bool
 calm:Bool
 pn:List (Addr × Obj)
 xe:Value -> Shared -> Prop
def frs (l:List Env):List Addr:=l.filterMap (·.frame)
abbrev Cx.fs (X:Cx):List Addr:=frs X.outer
def Vis (sc:Scope) (x:Str):Prop:=sc.names.lookup x = some .local ∨ sc.names.lookup x = some .cell ∨ sc.names.lookup x = some .free
def Loc (sc:Scope) (x:Str):Prop:=sc.names.lookup x = some .local ∨ sc.names.lookup x = some .cell
def Look (env:Env) (h:Heap) (m:Str -> Option Value) (x:Str) (u:Value):Prop:=
 (env.kindOf x = some .local ∧ m x = some u) ∨ ((env.kindOf x = some .cell ∨ env.kindOf x = some .free) ∧ ∃ c, env.cells.lookup x = some c ∧ h.IsCell c (some u))
structure Cx.Ok (X:Cx):Prop where
 mod:Mod X.K X.mg X.base
 kind:X.env.scope.kind = .function
 glob:X.env.globals = mainGlobals
 blt:X.env.builtins = builtinsNs
 above:X.s₀.heap.objs.size ≤ X.env.locals
 inj:∀ x y c, X.env.cells.lookup x = some c -> X.env.cells.lookup y = some c -> x = y
 has:∀ x, (X.env.kindOf x = some .cell ∨ X.env.kindOf x = some .free) -> ∃ c, X.env.cells.lookup x = some c
 cab:∀ x c, X.fn x = true -> X.env.cells.lookup x = some c -> X.s₀.heap.objs.size ≤ c
 hd:X.calm = true -> X.A.handled = none
 frames:X.A.frames = some X.stack
 stk:X.stack = X.outer ∨ (X.stack = X.env :: X.outer ∧ X.env.frame = some X.env.locals)
 exf:∀ b ∈ X.ex, b ≠ X.env.locals ∧ ∀ x c, X.env.cells.lookup x = some c -> c ≠ b
 bs:∀ b o, X.base.get? b = some o -> X.s₀.heap.get? b = some o ∧ X.H₀ b = none
 bsz:X.base.objs.size ≤ X.s₀.heap.objs.size
 noex:∀ b o, X.base.get? b = some o -> b ∉ X.ex
 exfs:∀ b ∈ X.ex, b ∉ X.fs
 funs:X.s₀.heap.FunFrames X.base X.outer
 frf:∀ b ∈ X.fs, X.H₀ b = none
structure Inv (X:Cx) (pins:List (Addr × Obj)) (σ:List (Option V)) (H:Hp) (s:Shared):Prop where
 ok:X.Ok
 os:s.os = X.s₀.os
 bare:AllBare s.gens
 base:Un X.fs X.ex X.H₀ H X.s₀.heap s.heap
 loc:∃ m, s.heap.Ns X.env.locals m ∧ ∀ (i:Nat) (x:Str) (v:V), X.N[i]? = some x -> σ[i]? = some (some v) -> Vis X.env.scope x -> ∃ u, RelV v u ∧ Look X.env s.heap m x u
 cell:∀ x c, X.env.cells.lookup x = some c -> ∃ v, s.heap.IsCell c v
 free:H X.env.locals = none
 freeC:∀ x c, X.env.cells.lookup x = some c -> H c = none
 pin:∀ p ∈ X.pn ++ pins, s.heap.get? p.1 = some p.2 ∧ H p.1 = none ∧ p.1 ≠ X.env.locals ∧ p.1 ∉ X.fs ∧ ∀ v, p.2.data ≠ .cell v
 hok:HOk X.prog X.w H s.heap
 len:σ.length = X.N.length
section
variable {X:Cx} {pins:List (Addr × Obj)} {σ:List (Option V)} {H H':Hp} {s:Shared} {h':Heap}
theorem Cx.Ok.nofr (ok:X.Ok) {b:Addr} {o:Obj} (e:X.base.get? b = some o):b ∉ X.fs:=fun hb=>by
 have:=(ok.funs.mem hb).1
 rw [e] at this; cases this
theorem Inv.bs (I:Inv X pins σ H s):∀ b o, X.base.get? b = some o -> s.heap.get? b = some o ∧ H b = none:=fun b o e=>
 ⟨I.base.keep b o (I.ok.bs b o e).1 (I.ok.bs b o e).2 (I.ok.nofr e) (I.ok.noex b o e), I.base.free b o (I.ok.bs b o e).1 (I.ok.bs b o e).2 (I.ok.noex b o e)⟩
theorem Inv.bk (I:Inv X pins σ H s):∀ b o, X.base.get? b = some o -> s.heap.get? b = some o:=fun b o e=>(I.bs b o e).1
theorem Inv.mod (I:Inv X pins σ H s):Mod X.K X.mg X.base:=I.ok.mod
theorem Inv.kIn (I:Inv X pins σ H s):X.K.In s.heap:=I.ok.mod.kin.keeps I.bk
theorem Inv.lt (I:Inv X pins σ H s):X.env.locals < s.heap.objs.size:=let ⟨_, hn, _⟩:=I.loc; hn.lt
theorem Inv.sz (I:Inv X pins σ H s):X.s₀.heap.objs.size ≤ s.heap.objs.size:=Nat.le_trans I.ok.above (Nat.le_of_lt I.lt)
theorem Inv.nofs (I:Inv X pins σ H s) {a:Addr} (h:s.heap.objs.size ≤ a):a ∉ X.fs:=fun hb=>by
 obtain ⟨_, o, ho, _⟩:=I.ok.funs.mem hb
 exact absurd (Nat.lt_of_lt_of_le (Heap.lt_size ho) (Nat.le_trans I.sz h)) (Nat.lt_irrefl _)
theorem Inv.cne (I:Inv X pins σ H s):∀ x c, X.env.cells.lookup x = some c -> c ≠ X.env.locals:=fun x c e z=>by
 obtain ⟨v, o, ho, hd⟩:=I.cell x c e
 obtain ⟨m, ⟨o', es, ep, ho', hd', _⟩, _⟩:=I.loc
 rw [z, ho'] at ho; cases ho; rw [hd'] at hd; cases hd
theorem Inv.funs (I:Inv X pins σ H s):s.heap.FunFrames X.base X.outer:=by
 have all:∀ (l:List Env), (∀ b ∈ frs l, b ∈ X.fs) -> X.s₀.heap.FunFrames X.base l -> s.heap.FunFrames X.base l:=by
  intro l
  induction l with
  | nil=>intro _ _; trivial
  | cons env r ih=>
    intro hs hl
    obtain ⟨hk, ⟨L, o, hf, hn, ho, hd⟩, hr⟩:=hl
    have hL:L ∈ X.fs:=hs L (by unfold frs; rw [List.filterMap_cons, hf]; exact List.mem_cons_self)
    obtain ⟨sl, e⟩:=I.base.slot L o ho (I.ok.frf L hL) hL fun z=>I.ok.exfs L z hL
    exact ⟨hk, ⟨L, _, hf, hn, e, hd⟩, ih (fun b hb=>hs b (by unfold frs; rw [List.filterMap_cons, hf]; exact List.mem_cons_of_mem _ hb)) hr⟩
 exact all X.outer (fun _ hb=>hb) I.ok.funs
theorem Inv.stack (I:Inv X pins σ H s):s.heap.FunFrames X.base X.stack:=by
 rcases I.ok.stk with e | ⟨e, hf⟩
 ·rw [e]; exact I.funs
 ·rw [e]
  obtain ⟨m, hn, _⟩:=I.loc
  refine .cons (by rw [I.ok.kind]; decide) hf hn ?_ I.funs
  exact Heap.get?_none_of_le (Nat.le_trans I.ok.bsz I.ok.above)
theorem Inv.stkSub (I:Inv X pins σ H s):∀ b ∈ frs X.stack, b ∈ X.env.locals :: X.fs:=fun b hb=>by
 rcases I.ok.stk with e | ⟨e, hf⟩
 ·rw [e] at hb; exact List.mem_cons_of_mem _ hb
 ·rw [e] at hb
  unfold frs at hb
  rw [List.filterMap_cons, hf] at hb
  exact hb
theorem Inv.stkFree (I:Inv X pins σ H s):∀ b ∈ frs X.stack, H b = none:=fun b hb=>by
 rcases List.mem_cons.mp (I.stkSub b hb) with e | hb
 ·rw [e]; exact I.free
 ·obtain ⟨_, o, ho, _⟩:=I.ok.funs.mem hb
  exact I.base.free b o ho (I.ok.frf b hb) fun z=>I.ok.exfs b z hb
theorem Inv.step {g':Array GenState} {t':Nat} {d':Drawn} {ch:List Addr} (I:Inv X pins σ H s)
  (hch:∀ b ∈ ch, (b ∈ X.ex ∨ X.s₀.heap.objs.size ≤ b) ∧ b ≠ X.env.locals ∧ (∀ x c, X.env.cells.lookup x = some c -> c ≠ b) ∧ ∀ p ∈ X.pn ++ pins, p.1 ≠ b)
  (keep:∀ b o, b ≠ X.env.locals -> b ∉ X.fs -> b ∉ ch -> s.heap.get? b = some o -> H b = none -> h'.get? b = some o)
  (slot:∀ b o, b ≠ X.env.locals -> b ∈ X.fs -> b ∉ ch -> s.heap.get? b = some o -> H b = none -> ∃ sl, h'.get? b = some { o with slots:=sl }) (free:∀ b o, b ∉ ch -> s.heap.get? b = some o -> H b = none -> H' b = none)
  (there:∀ b o, b ∉ ch -> s.heap.get? b = some o -> ∃ o', h'.get? b = some o')
  (tups:∀ b xs, H b = some (.tup xs) -> H' b = some (.tup xs)) (frzs:∀ b o u, H b = some (.frz o u) -> H' b = some (.frz o u)) (tbls:∀ b ps, H b = some (.tbl ps) -> ∃ more, H' b = some (.tbl (ps ++ more)))
  (ns:∀ m, s.heap.Ns X.env.locals m -> h'.Ns X.env.locals m) (hok:HOk X.prog X.w H' h') (hg:AllBare g') :
  Inv X pins σ H' { s with heap:=h', gens:=g', drawn:=d', toks:=t' }:=by
 have neL:∀ b o, X.s₀.heap.get? b = some o -> b ≠ X.env.locals:=fun b o e=>Nat.ne_of_lt (Nat.lt_of_lt_of_le (Heap.lt_size e) I.ok.above)
 have neC:∀ b o, X.s₀.heap.get? b = some o -> b ∉ X.ex -> b ∉ ch:=fun b o e hx hb=>by
  rcases (hch b hb).1 with z | z
  ·exact hx z
  ·exact absurd (Nat.lt_of_lt_of_le (Heap.lt_size e) z) (Nat.lt_irrefl _)
 have cellK:∀ x c, X.env.cells.lookup x = some c -> ∀ v, s.heap.IsCell c v -> h'.IsCell c v:=fun x c e v ⟨o, ho, hd⟩=>by
  have nch:c ∉ ch:=fun z=>(hch c z).2.2.1 x c e rfl
  by_cases hc:c ∈ X.fs
  ·obtain ⟨sl, q⟩:=slot c o (I.cne x c e) hc nch ho (I.freeC x c e)
   exact ⟨_, q, hd⟩
  ·exact ⟨o, keep c o (I.cne x c e) hc nch ho (I.freeC x c e), hd⟩
 refine ⟨I.ok, I.os, hg, ⟨fun b o e n hb hx=>?_, fun b o e n hb hx=>?_, fun b o e n hx=>?_, fun b o e hx=>?_, fun b xs e=>tups b xs (I.base.tups b xs e), fun b o xs e=>frzs b o xs (I.base.frzs b o xs e), fun b ps e=>?_⟩, ?_, fun x c e=>?_, ?_, fun x c e=>?_, fun p hp=>?_, hok, I.len⟩
 ·exact keep b o (neL b o e) hb (neC b o e hx) (I.base.keep b o e n hb hx) (I.base.free b o e n hx)
 ·obtain ⟨sl, e1⟩:=I.base.slot b o e n hb hx
  obtain ⟨sl', e2⟩:=slot b _ (neL b o e) hb (neC b o e hx) e1 (I.base.free b o e n hx)
  exact ⟨sl', e2⟩
 ·obtain ⟨o', e1⟩:=I.base.there b o e hx
  exact free b o' (neC b o e hx) e1 (I.base.free b o e n hx)
 ·obtain ⟨o', e1⟩:=I.base.there b o e hx
  exact there b o' (neC b o e hx) e1
 ·obtain ⟨m1, e1⟩:=I.base.tbls b ps e
  obtain ⟨m2, e2⟩:=tbls b _ e1
  exact ⟨m1 ++ m2, by rw [e2, Array.append_assoc]⟩
 ·obtain ⟨m, hn, hl⟩:=I.loc
  refine ⟨m, ns m hn, fun i x v e1 e2 e3=>?_⟩
  obtain ⟨u, r, l⟩:=hl i x v e1 e2 e3
  refine ⟨u, r, ?_⟩
  rcases l with l | ⟨k, c, e, z⟩
  ·exact .inl l
  ·exact .inr ⟨k, c, e, cellK x c e _ z⟩
 ·obtain ⟨v, z⟩:=I.cell x c e
  exact ⟨v, cellK x c e v z⟩
 ·obtain ⟨m, ⟨o, _, _, ho, _⟩, _⟩:=I.loc
  exact free _ o (fun z=>(hch _ z).2.1 rfl) ho I.free
 ·obtain ⟨v, o, ho, hd⟩:=I.cell x c e
  exact free c o (fun z=>(hch c z).2.2.1 x c e rfl) ho (I.freeC x c e)
 ·obtain ⟨e, n, ne, nf, d⟩:=I.pin p hp
  have nch:p.1 ∉ ch:=fun z=>(hch p.1 z).2.2.2 p hp rfl
  exact ⟨keep p.1 p.2 ne nf nch e n, free p.1 p.2 nch e n, ne, nf, d⟩
theorem Inv.un {t':Nat} (I:Inv X pins σ H s) (u:Un X.fs [] H H' s.heap h') (hok:HOk X.prog X.w H' h'):Inv X pins σ H' { s with heap:=h', toks:=t' }:=by
 obtain ⟨m, ⟨o, es, ep, ho, r⟩, _⟩:=id I.loc
 obtain ⟨sl, hL⟩:=u.any ho I.free (by simp)
 exact I.step (g':=s.gens) (d':=s.drawn) (ch:=[]) (fun _ z=>nomatch z) (fun b o _ hb _ e n=>u.keep b o e n hb (by simp)) (fun b o _ hb _ e n=>u.slot b o e n hb (by simp)) (fun b o _ e n=>u.free b o e n (by simp)) (fun b o _ e=>u.there b o e (by simp)) u.tups u.frzs u.tbls (fun m' hm=>by
  obtain ⟨o', es', ep', ho', r'⟩:=hm
  rw [ho] at ho'; cases ho'
  exact ⟨_, es', ep', hL, r'⟩) hok I.bare
theorem Inv.call {g':Array GenState} {t':Nat} {d':Drawn} {ch:List Addr} (I:Inv X pins σ H s) (u:Un (frs X.stack) ch H H' s.heap h') (hok:HOk X.prog X.w H' h') (hg:AllBare g')
  (hch:∀ b ∈ ch, (b ∈ X.ex ∨ X.s₀.heap.objs.size ≤ b) ∧ b ≠ X.env.locals ∧ (∀ x c, X.env.cells.lookup x = some c -> c ≠ b) ∧ ∀ p ∈ X.pn ++ pins, p.1 ≠ b) :
  Inv X pins σ H' { s with heap:=h', gens:=g', drawn:=d', toks:=t' }:=by
 obtain ⟨m, ⟨o, es, ep, ho, r⟩, _⟩:=id I.loc
 obtain ⟨sl, hL⟩:=u.any ho I.free fun z=>(hch _ z).2.1 rfl
 exact I.step (ch:=ch) hch (fun b o hL hb hc e n=>u.keep b o e n (fun z=>(List.mem_cons.mp (I.stkSub b z)).elim hL hb) hc) (fun b o _ _ hc e n=>u.any e n hc) (fun b o hc e n=>u.free b o e n hc) (fun b o hc e=>u.there b o e hc) u.tups u.frzs u.tbls (fun m' hm=>by
  obtain ⟨o', es', ep', ho', r'⟩:=hm
  rw [ho] at ho'; cases ho'
  exact ⟨_, es', ep', hL, r'⟩) hok hg
theorem Inv.turned {t':Nat} {it:Addr} (I:Inv X pins σ H s) (k:∀ b o, b ≠ it -> s.heap.get? b = some o -> h'.get? b = some o) (hn:H it = none) (hL:it ≠ X.env.locals)
  (h1:it ∈ X.ex ∨ X.s₀.heap.objs.size ≤ it) (h2:∀ x c, X.env.cells.lookup x = some c -> c ≠ it) (h3:∀ p ∈ X.pn ++ pins, p.1 ≠ it):Inv X pins σ H { s with heap:=h', toks:=t' }:=by
 have nit:∀ b u, H b = some u -> b ≠ it:=fun b u e z=>by rw [z, hn] at e; cases e
 refine I.step (g':=s.gens) (d':=s.drawn) (ch:=[it]) (fun b hb=>?_) (fun b o _ _ hc e _=>k b o (fun z=>hc (by simp [z])) e) (fun b o _ _ hc e _=>⟨o.slots, k b o (fun z=>hc (by simp [z])) e⟩) (fun _ _ _ _ n=>n)
  (fun b o hc e=>⟨o, k b o (fun z=>hc (by simp [z])) e⟩) (fun _ _ e=>e) (fun _ _ _ e=>e) (fun b ps e=>⟨#[], by rw [e]; simp⟩) (fun m hm=>?_) (fun b u e=>?_) I.bare
 ·have e:b = it:=by simpa using hb
  subst e
  exact ⟨h1, hL, h2, h3⟩
 ·obtain ⟨o, es, ep, ho, r⟩:=hm
  exact ⟨o, es, ep, k _ o (Ne.symm hL) ho, r⟩
 ·refine (I.hok b u e).stay (fun c v hc q=>k c v ?_ q) (fun _ q=>q) fun _ _ q=>q
  rcases hc with z | z
  ·rw [z]; exact nit b u e
  ·exact nit c _ z
theorem Inv.tok (I:Inv X pins σ H s) (t:Nat):Inv X pins σ H { s with toks:=t }:=I.un (h':=s.heap) (t':=t) Un.refl I.hok
theorem Inv.kept {t':Nat} (I:Inv X pins σ H s) (k:∀ b u, s.heap.get? b = some u -> h'.get? b = some u):Inv X pins σ H { s with heap:=h', toks:=t' }:=I.un (Un.kept k) (I.hok.kept k)
theorem Inv.laid {a:Addr} {o:HO} {t':Nat} (I:Inv X pins σ H s) (k:∀ b u, s.heap.get? b = some u -> h'.get? b = some u) (hp:s.heap.objs.size ≤ a) (new:ObjOk X.prog X.w (upd H a o) h' a o) :
  Inv X pins σ (upd H a o) { s with heap:=h', toks:=t' }:=I.un (Un.laid k hp (I.hok.fresh hp)) (I.hok.laid k hp new)
theorem Inv.write {x e:Addr} {o:HO} {t':Nat} (I:Inv X pins σ H s) (mu:Mut (H x)) (he:e = x ∨ H e = some (.own x)) (k:∀ b u, b ≠ e -> s.heap.get? b = some u -> h'.get? b = some u) (heo:∃ u, h'.get? e = some u)
  (new:ObjOk X.prog X.w (upd H x o) h' x o):Inv X pins σ (upd H x o) { s with heap:=h', toks:=t' }:=I.un (Un.write mu he k heo) (I.hok.write mu he k heo new)
theorem Inv.pins_of {pins':List (Addr × Obj)} (I:Inv X pins σ H s) (h:∀ p ∈ pins', s.heap.get? p.1 = some p.2 ∧ H p.1 = none ∧ p.1 ≠ X.env.locals ∧ p.1 ∉ X.fs ∧ ∀ v, p.2.data ≠ .cell v):Inv X pins' σ H s:=
 ⟨I.ok, I.os, I.bare, I.base, I.loc, I.cell, I.free, I.freeC, fun p hp=>(List.mem_append.mp hp).elim (fun z=>I.pin p (List.mem_append_left _ z)) (h p), I.hok, I.len⟩
theorem nodup_ix {N:List Str} (hN:N.Nodup) {i j:Nat} {x:Str} (a:N[i]? = some x) (b:N[j]? = some x):i = j:=by
 obtain ⟨h1, e1⟩:=List.getElem?_eq_some_iff.mp a
 obtain ⟨h2, e2⟩:=List.getElem?_eq_some_iff.mp b
 exact (List.getElem_inj hN).mp (e1.trans e2.symm)
theorem store_ok2 {M:Model} {A:Around} {E:Value -> Shared -> Prop} {i:Nat} {x:Str} {v:V} {u:Value} {Q:Unit -> Shared -> Prop} (I:Inv X pins σ H s) (hN:X.N.Nodup) (hi:X.N[i]? = some x) (hx:Loc X.env.scope x) (r:RelV v u)
  (h:∀ s', Inv X pins (σ.set i (some v)) H s' -> (∃ a, Heap.SameBut a s.heap s'.heap ∧ (a = X.env.locals ∨ X.env.cells.lookup x = some a)) -> Q () s') (hf:X.fn x = true ∨ X.env.scope.names.lookup x = some .local:=by first | exact .inl rfl | exact .inr rfl | assumption):wpAny M A (storeName X.env x u) Q E s:=by
 obtain ⟨m, hn, hl⟩:=id I.loc
 have hcls:(X.env.scope.kind == .class || (X.env.scope.kind == .module && X.env.locals != X.env.globals)) = false:=by rw [I.ok.kind]; rfl
 have hiσ:i < σ.length:=by rw [I.len]; exact (List.getElem?_eq_some_iff.mp hi).1
 have cne:=I.cne
 have tracked:∀ {a:Addr} {h':Heap}, (∃ o, s.heap.get? a = some o ∧ H a = none) -> Heap.SameBut a s.heap h' -> HOk X.prog X.w H h':=fun {a h'} ha hs b ob e=>by
  obtain ⟨_, _, hfree⟩:=ha
  refine (I.hok b ob e).stay (fun c w' hc q=>(hs.2 c ?_).trans q) (fun _ q=>q) fun _ _ q=>q
  rintro rfl
  rcases hc with rfl | hc
  ·rw [hfree] at e; cases e
  ·rw [hfree] at hc; cases hc
 rcases hx with hk | hk
 ·refine wpAny_storeName_local hk hn (fun h' hn' hs=>?_) hcls
  obtain ⟨oL, _, _, hoL, _⟩:=id hn
  refine h _ ⟨I.ok, I.os, I.bare, ⟨fun b o e n hb hx=>?_, fun b o e n hb hx=>?_, I.base.free, fun b o e hx=>?_, I.base.tups, I.base.frzs, I.base.tbls⟩, ⟨_, hn', fun j y v' e1 e2 e3=>?_⟩, fun y c e=>?_, I.free, I.freeC, fun p hp=>?_, tracked ⟨oL, hoL, I.free⟩ hs, by simpa using I.len⟩ ⟨_, hs, .inl rfl⟩
  ·exact (hs.2 b (Nat.ne_of_lt (Nat.lt_of_lt_of_le (Heap.lt_size e) I.ok.above))).trans (I.base.keep b o e n hb hx)
  ·obtain ⟨sl, e1⟩:=I.base.slot b o e n hb hx
   exact ⟨sl, (hs.2 b (Nat.ne_of_lt (Nat.lt_of_lt_of_le (Heap.lt_size e) I.ok.above))).trans e1⟩
  ·obtain ⟨o', e1⟩:=I.base.there b o e hx
   exact ⟨o', (hs.2 b (Nat.ne_of_lt (Nat.lt_of_lt_of_le (Heap.lt_size e) I.ok.above))).trans e1⟩
  ·by_cases hj:j = i
   ·subst hj
    rw [hi] at e1; cases e1
    rw [List.getElem?_set_self hiσ] at e2
    cases e2
    exact ⟨u, r, .inl ⟨hk, by simp⟩⟩
   ·rw [List.getElem?_set_ne (Ne.symm hj)] at e2
    obtain ⟨u', r', q⟩:=hl j y v' e1 e2 e3
    refine ⟨u', r', ?_⟩
    rcases q with ⟨k, e⟩ | ⟨k, c, e, z⟩
    ·refine .inl ⟨k, ?_⟩
     have:y ≠ x:=fun e=>hj (nodup_ix hN e1 (e ▸ hi))
     simp [this, e]
    ·exact .inr ⟨k, c, e, z.sameBut hs (cne y c e)⟩
  ·obtain ⟨w', z⟩:=I.cell y c e
   exact ⟨w', z.sameBut hs (cne y c e)⟩
  ·obtain ⟨e, n, ne, nf, d⟩:=I.pin p hp
   exact ⟨(hs.2 p.1 ne).trans e, n, ne, nf, d⟩
 ·have hfn:X.fn x = true:=by
   rcases hf with z | z
   ·exact z
   ·rw [z] at hk; cases hk
  obtain ⟨c, hc⟩:=I.ok.has x (.inl hk)
  obtain ⟨w', z⟩:=I.cell x c hc
  refine wpAny_storeName_cell I.ok.kind hk hc z (fun h' hc' hs=>?_)
  obtain ⟨oc, hoc, hocd⟩:=id z
  refine h { s with heap:=h' } ⟨I.ok, I.os, I.bare, ⟨fun b o e n hb hx=>?_, fun b o e n hb hx=>?_, I.base.free, fun b o e hx=>?_, I.base.tups, I.base.frzs, I.base.tbls⟩, ⟨m, hn.sameBut hs (Ne.symm (cne x c hc)), fun j y v' e1 e2 e3=>?_⟩, fun y c' e=>?_, I.free, I.freeC, fun p hp=>?_, tracked ⟨oc, hoc, I.freeC x c hc⟩ hs, by simpa using I.len⟩ ⟨c, hs, .inr hc⟩
  ·exact (hs.2 b (Nat.ne_of_lt (Nat.lt_of_lt_of_le (Heap.lt_size e) (I.ok.cab x c hfn hc)))).trans (I.base.keep b o e n hb hx)
  ·obtain ⟨sl, e1⟩:=I.base.slot b o e n hb hx
   exact ⟨sl, (hs.2 b (Nat.ne_of_lt (Nat.lt_of_lt_of_le (Heap.lt_size e) (I.ok.cab x c hfn hc)))).trans e1⟩
  ·obtain ⟨o', e1⟩:=I.base.there b o e hx
   exact ⟨o', (hs.2 b (Nat.ne_of_lt (Nat.lt_of_lt_of_le (Heap.lt_size e) (I.ok.cab x c hfn hc)))).trans e1⟩
  ·by_cases hj:j = i
   ·subst hj
    rw [hi] at e1; cases e1
    rw [List.getElem?_set_self hiσ] at e2
    cases e2
    exact ⟨u, r, .inr ⟨.inl hk, c, hc, hc'⟩⟩
   ·rw [List.getElem?_set_ne (Ne.symm hj)] at e2
    obtain ⟨u', r', q⟩:=hl j y v' e1 e2 e3
    refine ⟨u', r', ?_⟩
    rcases q with q | ⟨k, c', e, z'⟩
    ·exact .inl q
    ·refine .inr ⟨k, c', e, z'.sameBut hs ?_⟩
     rintro rfl
     exact hj (nodup_ix hN e1 (I.ok.inj _ _ _ e hc ▸ hi))
  ·by_cases hcc:c' = c
   ·subst hcc; exact ⟨_, hc'⟩
   ·obtain ⟨w2, z2⟩:=I.cell y c' e
    exact ⟨w2, z2.sameBut hs hcc⟩
  ·obtain ⟨e, n, ne, nf, d⟩:=I.pin p hp
   refine ⟨(hs.2 p.1 ?_).trans e, n, ne, nf, d⟩
   intro q
   rw [q, hoc] at e
   have q':oc = p.2:=Option.some.inj e
   exact d w' (by rw [← q']; exact hocd)
theorem store_ok {M:Model} {A:Around} {E:Value -> Shared -> Prop} {i:Nat} {x:Str} {v:V} {u:Value} {Q:Unit -> Shared -> Prop} (I:Inv X pins σ H s) (hN:X.N.Nodup) (hi:X.N[i]? = some x) (hx:Loc X.env.scope x) (r:RelV v u)
  (h:∀ s', Inv X pins (σ.set i (some v)) H s' -> Q () s') (hf:X.fn x = true ∨ X.env.scope.names.lookup x = some .local:=by first | exact .inl rfl | exact .inr rfl | assumption):wpAny M A (storeName X.env x u) Q E s:=
 store_ok2 I hN hi hx r (fun s' I' _=>h s' I') hf
theorem Inv.call' {s':Shared} {ch:List Addr} (I:Inv X pins σ H s) (ho:s'.os = s.os) (u:Un (frs X.stack) ch H H' s.heap s'.heap) (hok:HOk X.prog X.w H' s'.heap) (hg:AllBare s'.gens)
  (hch:∀ b ∈ ch, (b ∈ X.ex ∨ X.s₀.heap.objs.size ≤ b) ∧ b ≠ X.env.locals ∧ (∀ x c, X.env.cells.lookup x = some c -> c ≠ b) ∧ ∀ p ∈ X.pn ++ pins, p.1 ≠ b):Inv X pins σ H' s':=by
 obtain ⟨h', g', d', t', o'⟩:=s'
 have e:o' = s.os:=ho
 subst e
 exact I.call (g':=g') (t':=t') (d':=d') u hok hg hch
end
abbrev XK:=Value -> Option Addr -> Hp -> Prop
abbrev St:=List (Option V)
abbrev VK:=V -> Hp -> Prop
abbrev TE:=St -> Hp -> VK -> Prop
abbrev TT:=St -> Hp -> (Bool -> Hp -> Prop) -> Prop
abbrev TA:=St -> Hp -> (List V -> Hp -> Prop) -> Prop
structure Ends where
 nx:St -> Hp -> Prop
 rt:VK
 bk:St -> Hp -> Prop:=fun _ _=>False
 ct:St -> Hp -> Prop:=fun _ _=>False
abbrev TS:=Ends -> St -> Hp -> Prop
def EP (X:Cx) (pins:List (Addr × Obj)) (σ:St) (Q:VK) (u:Value) (s':Shared):Prop:=∃ v H', Inv X pins σ H' s' ∧ RelV v u ∧ Q v H'
def TP (X:Cx) (pins:List (Addr × Obj)) (σ:St) (Q:Bool -> Hp -> Prop) (b:Bool) (s':Shared):Prop:=∃ H', Inv X pins σ H' s' ∧ Q b H'
def AP (X:Cx) (pins:List (Addr × Obj)) (σ:St) (Q:List V -> Hp -> Prop) (us:List Value) (s':Shared):Prop:=∃ vs H', Inv X pins σ H' s' ∧ Vals vs us ∧ Q vs H'
def SP (X:Cx) (pins:List (Addr × Obj)) (D:Ends) (f:Flow) (s':Shared):Prop:=
 match f with
 | .next=>∃ σ' H', Inv X pins σ' H' s' ∧ D.nx σ' H'
 | .brk=>∃ σ' H', Inv X pins σ' H' s' ∧ D.bk σ' H'
 | .cont=>∃ σ' H', Inv X pins σ' H' s' ∧ D.ct σ' H'
 | .ret u=>∃ v σ' H', Inv X pins σ' H' s' ∧ RelV v u ∧ D.rt v H'
def PE (X:Cx) (e:Expr) (t:TE):Prop:=
 ∀ (pins:List (Addr × Obj)) (s:Shared) (σ:St) (H:Hp) (Q:VK), Inv X pins σ H s -> t σ H Q -> wpAny (model X.prog X.w) X.A (eval e X.env) (EP X pins σ Q) X.xe s
def PT (X:Cx) (e:Expr) (t:TT):Prop:=
 ∀ (pins:List (Addr × Obj)) (s:Shared) (σ:St) (H:Hp) (Q:Bool -> Hp -> Prop), Inv X pins σ H s -> t σ H Q -> wpAny (model X.prog X.w) X.A (isTrue e X.env (eval e X.env)) (TP X pins σ Q) X.xe s
def PW (X:Cx) (e:Expr) (t:TT):Prop:=
 ∀ (whole:Sem Value) (pins:List (Addr × Obj)) (s:Shared) (σ:St) (H:Hp) (Q:Bool -> Hp -> Prop), Inv X pins σ H s -> t σ H Q -> wpAny (model X.prog X.w) X.A (isTrue e X.env whole) (TP X pins σ Q) X.xe s
theorem PW.pt {X:Cx} {e:Expr} {t:TT} (h:PW X e t):PT X e t:=h _
def PA (X:Cx) (es:List Expr) (t:TA):Prop:=
 ∀ (pos:Pos) (pins:List (Addr × Obj)) (s:Shared) (σ:St) (H:Hp) (Q:List V -> Hp -> Prop), Inv X pins σ H s -> t σ H Q -> wpAny (model X.prog X.w) X.A (spliced (backTo pos (starEach es X.env))) (AP X pins σ Q) X.xe s
def PS (X:Cx) (st:Stmt) (t:TS):Prop:=
 ∀ (pins:List (Addr × Obj)) (s:Shared) (σ:St) (H:Hp) (D:Ends), Inv X pins σ H s -> t D σ H -> wpAny (model X.prog X.w) X.A (exec st X.env) (SP X pins D) X.xe s
def PSs (X:Cx) (st:List Stmt) (t:TS):Prop:=
 ∀ (pins:List (Addr × Obj)) (s:Shared) (σ:St) (H:Hp) (D:Ends), Inv X pins σ H s -> t D σ H -> wpAny (model X.prog X.w) X.A (execs st X.env) (SP X pins D) X.xe s
theorem thn {α:Type} {t:Sem α} {Q Q':α -> Shared -> Prop} {M:Model} {A:Around} {E:Value -> Shared -> Prop} {s:Shared} (h:wpAny M A t Q E s) (hQ:∀ a s, Q a s -> Q' a s):wpAny M A t Q' E s:=wpAny_mono h hQ fun _ _ x=>x
end L2
namespace L2
open PySem PySem.Spec PyProof.Rows
section
variable {X:Cx}
def tVar (i:Nat):TE:=fun σ H Q=>∃ v, σ[i]? = some (some v) ∧ Q v H
def tC (v:V):TE:=fun _ H Q=>Q v H
theorem pe_var {i:Nat} {x:Str} {pos:Pos} (hN:X.N[i]? = some x) (hv:Vis X.env.scope x) (hd:(x == ("__debug__":Str)) = false:=by decide) (hcd:(x == ("__classdict__":Str)) = false:=by decide):PE X (.Name x pos) (tVar i):=by
 intro pins s σ H Q I h
 obtain ⟨v, e, h⟩:=h
 obtain ⟨m, hn, hl⟩:=I.loc
 obtain ⟨u, r, l⟩:=hl i x v hN e hv
 have fin:EP X pins σ Q u s:=⟨v, H, I, r, h⟩
 rcases l with ⟨hk, hm⟩ | ⟨hk, c, hc, hcell⟩
 ·exact wpAny_Name (wpAny_loadName_local I.ok.kind hk hn hm fin) hd
 ·rcases hk with hk | hk
  ·exact wpAny_Name (wpAny_loadName_cell I.ok.kind hk hc hcell fin) hd
  ·exact wpAny_Name (wpAny_loadName_free I.ok.kind hk hc hcell fin hcd) hd
theorem pe_int {i j pos}:PE X (.Constant (.int i) j pos) (tC (.int i)):=fun _ _ _ H _ I h=>wpAny_Constant_int ⟨.int i, H, I.tok _, ⟨_, rfl⟩, h⟩
theorem pe_bl {b j pos}:PE X (.Constant (.bool b) j pos) (tC (.bl b)):=fun _ _ _ H _ I h=>Constant_bool ⟨.bl b, H, I, rfl, h⟩
theorem pe_non {j pos}:PE X (.Constant .none j pos) (tC .non):=fun _ _ _ H _ I h=>Constant_none ⟨.non, H, I, rfl, h⟩
theorem pe_str {x j pos}:PE X (.Constant (.str x) j pos) (tC (.str x)):=fun _ _ _ H _ I h=>Calls.Constant_str ⟨.str x, H, I.tok _, ⟨_, rfl⟩, h⟩
def Gl (X:Cx) (x:Str):Prop:=X.env.kindOf x = some .globalImplicit
theorem ld_glob {E:Value -> Shared -> Prop} {pins:List (Addr × Obj)} {s:Shared} {σ:St} {H:Hp} {x:Str} {u:Value} {pos:Pos} {Q:Value -> Shared -> Prop} (I:Inv X pins σ H s) (hg:Gl X x) (hm:X.mg x = some u) (h:Q u s)
  (hd:(x == ("__debug__":Str)) = false:=by decide):wpAny (model X.prog X.w) X.A (eval (.Name x pos) X.env) Q E s:=
 Calls.Name_function_global I.ok.kind hg (Calls.loadGlobal_global (by rw [I.ok.glob]; exact I.mod.glob.keeps I.bk) hm h) hd
theorem ld_blt {E:Value -> Shared -> Prop} {pins:List (Addr × Obj)} {s:Shared} {σ:St} {H:Hp} {x:Str} {u:Value} {pos:Pos} {Q:Value -> Shared -> Prop} (I:Inv X pins σ H s) (hg:Gl X x) (hm:X.mg x = none) (hv:bootBuiltins x = some u) (h:Q u s)
  (hn:x ≠ "__name__":=by decide) (hd:(x == ("__debug__":Str)) = false:=by decide):wpAny (model X.prog X.w) X.A (eval (.Name x pos) X.env) Q E s:=by
 obtain ⟨mb, h1, h2⟩:=I.mod.blt
 exact Calls.Name_function_global I.ok.kind hg (Calls.loadGlobal_builtin (by rw [I.ok.glob]; exact I.mod.glob.keeps I.bk) hm (by rw [I.ok.blt]; exact h1.keeps I.bk) ((h2 x hn).trans hv) h) hd
theorem pe_bltn {x:Str} {v:V} {u:Value} {pos:Pos} (hg:Gl X x) (hm:X.mg x = none) (hv:bootBuiltins x = some u) (r:RelV v u) (hn:x ≠ "__name__":=by decide) (hd:(x == ("__debug__":Str)) = false:=by decide):PE X (.Name x pos) (tC v):=
 fun _ _ _ H _ I h=>ld_blt I hg hm hv ⟨v, H, I, r, h⟩ hn hd
variable {a b:Expr} {ta tb:TE} {pos:Pos}
def PC (X:Cx) (op:CmpOp) (a b:Expr) (t:TE):Prop:=
 ∀ (pins:List (Addr × Obj)) (s:Shared) (σ:St) (H:Hp) (Q:VK), Inv X pins σ H s -> t σ H Q ->
  wpAny (model X.prog X.w) X.A (eval a X.env) (fun v s₁=>wpAny (model X.prog X.w) X.A (eval b X.env) (fun u s₂=>wpAny (model X.prog X.w) X.A (compareOp op v u) (EP X pins σ Q) X.xe s₂) X.xe s₁) X.xe s
def tB (t:TE):TT:=fun σ H Q=>t σ H fun x H1=>∃ c, x = .bl c ∧ Q c H1
theorem pe_cmp {op:CmpOp} {t:TE} (h:PC X op a b t) (h1:behindInMarks op b = false:=by first | exact nobehind _ (by decide) (by decide) | rfl):PE X (.Compare a [op] [b] pos) t:=fun pins s σ H Q I hw=>wpAny_Compare1 (h pins s σ H Q I hw) h1
theorem pt_cmp {op:CmpOp} {t:TE} (h:PC X op a b t) (h1:behindInMarks op b = false:=by first | exact nobehind _ (by decide) (by decide) | rfl):PT X (.Compare a [op] [b] pos) (tB t):=by
 intro pins s σ H Q I hw
 refine wpAny_isTrue_Compare1 (thn (h pins s σ H _ I hw) fun v s1 h1=>thn h1 fun u s2 h2=>thn h2 fun c s3 ⟨x, H1, I1, r1, q1⟩=>?_) h1
 obtain ⟨d, rfl, q⟩:=q1
 cases r1
 exact wpAny_truthy_bool ⟨H1, I1, q⟩
theorem pt_val {e:Expr} {t:TE} (h:PE X e t) (he:∀ whole, isTrue e X.env whole = (do let v ← whole; standAt e.pos; holding [v] (truthy v)):=by intro _; rfl):PT X e (tB t):=by
 intro pins s σ H Q I hw
 refine isTrue_plain (thn (h pins s σ H _ I hw) fun v s1 ⟨x, H1, I1, r1, q1⟩=>?_) (he _)
 obtain ⟨d, rfl, q⟩:=q1
 cases r1
 exact wpAny_truthy_bool ⟨H1, I1, q⟩
variable {tA tB':TT} {rest:List Expr}
def tAnd (t u:TT):TT:=fun σ H Q=>t σ H fun c H1=>if c = true then u σ H1 Q else Q false H1
def tOr (t u:TT):TT:=fun σ H Q=>t σ H fun c H1=>if c = true then Q true H1 else u σ H1 Q
def tNot (t:TT):TT:=fun σ H Q=>t σ H fun c H1=>Q (!c) H1
theorem pw_and1 (ha:PT X a tA):PW X (.BoolOp .And [a] pos) tA:=by
 intro wh pins s σ H Q I h
 refine isTrue_and (thn (ha pins s σ H Q I h) fun c s1 e=>?_)
 cases c with
 | true=>exact isTrue_and_nil e
 | false=>exact e
theorem pw_or1 (ha:PT X a tA):PW X (.BoolOp .Or [a] pos) tA:=by
 intro wh pins s σ H Q I h
 refine isTrue_or (thn (ha pins s σ H Q I h) fun c s1 e=>?_)
 cases c with
 | false=>exact isTrue_or_nil e
 | true=>exact e
theorem pw_and (ha:PT X a tA) (hb:PW X (.BoolOp .And (b :: rest) pos) tB'):PW X (.BoolOp .And (a :: b :: rest) pos) (tAnd tA tB'):=by
 intro wh pins s σ H Q I h
 refine isTrue_and (thn (ha pins s σ H _ I h) fun c s1 ⟨H1, I1, q1⟩=>?_)
 cases c with
 | true=>exact hb wh pins s1 σ H1 Q I1 q1
 | false=>exact ⟨H1, I1, q1⟩
theorem pw_or (ha:PT X a tA) (hb:PW X (.BoolOp .Or (b :: rest) pos) tB'):PW X (.BoolOp .Or (a :: b :: rest) pos) (tOr tA tB'):=by
 intro wh pins s σ H Q I h
 refine isTrue_or (thn (ha pins s σ H _ I h) fun c s1 ⟨H1, I1, q1⟩=>?_)
 cases c with
 | true=>exact ⟨H1, I1, q1⟩
 | false=>exact hb wh pins s1 σ H1 Q I1 q1
theorem pt_not (ha:PT X a tA):PT X (.UnaryOp .Not a pos) (tNot tA):=by
 intro pins s σ H Q I h
 exact isTrue_not (ha pins s σ H (fun c H1=>Q (!c) H1) I h)
def tAndV (ta tb:TE):TE:=fun σ H Q=>ta σ H fun x H1=>∃ c, x = .bl c ∧ if c = true then tb σ H1 Q else Q (.bl false) H1
def tNotV (ta:TE):TE:=fun σ H Q=>ta σ H fun x H1=>∃ c, x = .bl c ∧ Q (.bl (!c)) H1
theorem pe_one {op} {t:TE} (h:PE X a t):PE X (.BoolOp op [a] pos) t:=fun pins s σ H Q I hw=>BoolOp_one (h pins s σ H Q I hw)
theorem pe_and (ha:PE X a ta) (hb:PE X (.BoolOp .And (b :: rest) pos) tb):PE X (.BoolOp .And (a :: b :: rest) pos) (tAndV ta tb):=by
 intro pins s σ H Q I h
 refine BoolOp_and (thn (ha pins s σ H _ I h) fun v s1 ⟨x, H1, I1, r1, q1⟩=>?_)
 obtain ⟨c, rfl, q1⟩:=q1
 cases r1
 refine wpAny_truthy_bool ?_
 cases c with
 | true=>exact hb pins s1 σ H1 Q I1 q1
 | false=>exact ⟨.bl false, H1, I1, rfl, q1⟩
theorem pe_not (ha:PE X a ta):PE X (.UnaryOp .Not a pos) (tNotV ta):=by
 intro pins s σ H Q I h
 refine UnaryOp_ (thn (ha pins s σ H _ I h) fun v s1 ⟨x, H1, I1, r1, q1⟩=>?_)
 obtain ⟨c, rfl, q1⟩:=q1
 cases r1
 exact not_of (wpAny_truthy_bool ⟨.bl (!c), H1, I1, rfl, q1⟩)
end
end L2
namespace L2
open PySem PySem.Spec PyProof.Rows
def SqL (K:PySem.W.Frag) (H:Hp) (a:Addr) (xs:List V):Prop:=
 Rd H a (.lst xs) ∨
  ∃ (o:Obj) (its:Array Value) (n:Nat), K.lookup a = some o ∧ o.cls = .type "list" ∧ o.dict = none ∧ o.data = .seq its n ∧ its.size ≤ sizeLine ∧ Vals xs its.toList
def SqT (K:PySem.W.Frag) (H:Hp) (a:Addr) (xs:List V):Prop:=
 Rd H a (.tup xs) ∨
  ∃ (o:Obj) (its:Array Value) (n:Nat), K.lookup a = some o ∧ o.cls = .type "tuple" ∧ o.data = .seq its n ∧ its.size ≤ sizeLine ∧ Vals xs its.toList
def absV:Value -> Option V
 | .none=>some .non
 | .bool b=>some (.bl b)
 | .int i _=>some (.int i)
 | .str x _=>some (.str x)
 | .bytes b _=>some (.byt b)
 | .float b _=>some (.flt b)
 | .ref a=>some (.ref a)
 | .type n=>some (.ty n)
 | _=>none
theorem RelV.abs {x:V} {u:Value} (r:RelV x u):absV u = some x:=by
 cases x with
 | non=>cases r; rfl
 | bl _=>cases r; rfl
 | int _=>obtain ⟨t, rfl⟩:=r; rfl
 | str _=>obtain ⟨t, rfl⟩:=r; rfl
 | byt _=>obtain ⟨t, rfl⟩:=r; rfl
 | flt _=>obtain ⟨t, rfl⟩:=r; rfl
 | ref _=>cases r; rfl
 | ty _=>cases r; rfl
theorem RelV.inj {x y:V} {u:Value} (r:RelV x u) (q:RelV y u):x = y:=Option.some.inj (r.abs.symm.trans q.abs)
theorem Vals.inj:∀ {xs ys:List V} {us:List Value}, Vals xs us -> Vals ys us -> xs = ys
 | _, _, _, .nil, .nil=>rfl
 | _, _, _, .cons r t, .cons r' t'=>by rw [r.inj r', Vals.inj t t']
section
variable {X:Cx} {pins:List (Addr × Obj)} {σ:St} {H:Hp} {s:Shared} {a:Addr} {xs ys:List V}
theorem SqL.of {K:PySem.W.Frag} (h:H a = some (.lst xs)):SqL K H a xs:=.inl (.inl h)
theorem SqT.of {K:PySem.W.Frag} (h:H a = some (.tup xs)):SqT K H a xs:=.inl (.inl h)
theorem Inv.list (I:Inv X pins σ H s) (h:SqL X.K H a xs):∃ its:List Value, Vals xs its ∧ PlainL s.heap a its.toArray ∧ xs.length ≤ sizeLine:=by
 rcases h with h | ⟨o, its, n, hk, hc, hd, hs, hz, r⟩
 ·obtain ⟨z, its, n, r, e⟩:=h.ok I.hok
  exact ⟨its, r, ⟨_, n, e, rfl, rfl, rfl⟩, z⟩
 ·refine ⟨its.toList, r, ⟨o, n, I.kIn a o hk, hc, hd, by simpa using hs⟩, ?_⟩
  have e:=r.length
  simp only [Array.length_toList] at e
  omega
theorem Inv.tuple (I:Inv X pins σ H s) (h:SqT X.K H a xs):∃ its:List Value, Vals xs its ∧ IsTup s.heap a its.toArray ∧ xs.length ≤ sizeLine:=by
 rcases h with h | ⟨o, its, n, hk, hc, hs, hz, r⟩
 ·obtain ⟨z, its, r, p⟩:=h.ok I.hok
  exact ⟨its, r, p, z⟩
 ·refine ⟨its.toList, r, ⟨o, I.kIn a o hk, hc, n, by simpa using hs⟩, ?_⟩
  have e:=r.length
  simp only [Array.length_toList] at e
  omega
theorem Inv.list_inj (I:Inv X pins σ H s) (h:SqL X.K H a xs) (h':SqL X.K H a ys):xs = ys:=by
 obtain ⟨its, r, ⟨o, n, e, _, _, d⟩, _⟩:=I.list h
 obtain ⟨its', r', ⟨o', n', e', _, _, d'⟩, _⟩:=I.list h'
 rw [e] at e'; cases e'
 rw [d] at d'
 injection d' with d1 _
 have:its = its':=by simpa using congrArg Array.toList d1
 subst this
 exact r.inj r'
end
abbrev Cx.wish (X:Cx) (E:Value -> Shared -> Prop):Cx:={ X with xe:=E }
abbrev Cx.nox (X:Cx):Cx:=X.wish fun _ _=>False
theorem Cx.Ok.wish {X:Cx} (ok:X.Ok) (E:Value -> Shared -> Prop):(X.wish E).Ok:=
 ⟨ok.mod, ok.kind, ok.glob, ok.blt, ok.above, ok.inj, ok.has, ok.cab, ok.hd, ok.frames, ok.stk, ok.exf, ok.bs, ok.bsz, ok.noex, ok.exfs, ok.funs, ok.frf⟩
theorem Cx.Ok.unwish {X:Cx} {E:Value -> Shared -> Prop} (ok:(X.wish E).Ok):X.Ok:=
 ⟨ok.mod, ok.kind, ok.glob, ok.blt, ok.above, ok.inj, ok.has, ok.cab, ok.hd, ok.frames, ok.stk, ok.exf, ok.bs, ok.bsz, ok.noex, ok.exfs, ok.funs, ok.frf⟩
section
variable {X:Cx} {pins:List (Addr × Obj)} {σ:St} {H:Hp} {s:Shared} {E:Value -> Shared -> Prop}
theorem Inv.wish (I:Inv X pins σ H s) (E:Value -> Shared -> Prop):Inv (X.wish E) pins σ H s:=⟨I.ok.wish E, I.os, I.bare, I.base, I.loc, I.cell, I.free, I.freeC, I.pin, I.hok, I.len⟩
theorem Inv.unwish (I:Inv (X.wish E) pins σ H s):Inv X pins σ H s:=⟨I.ok.unwish, I.os, I.bare, I.base, I.loc, I.cell, I.free, I.freeC, I.pin, I.hok, I.len⟩
theorem SP.unwish {D:Ends} {f:Flow} {s':Shared} (h:SP (X.wish E) pins D f s'):SP X pins D f s':=by
 cases f with
 | next=>obtain ⟨σ', H', I, q⟩:=h; exact ⟨σ', H', I.unwish, q⟩
 | brk=>obtain ⟨σ', H', I, q⟩:=h; exact ⟨σ', H', I.unwish, q⟩
 | cont=>obtain ⟨σ', H', I, q⟩:=h; exact ⟨σ', H', I.unwish, q⟩
 | ret u=>obtain ⟨v, σ', H', I, r, q⟩:=h; exact ⟨v, σ', H', I.unwish, r, q⟩
theorem PSs.nox {st:List Stmt} {t:TS} (h:PSs X.nox st t):PSs X st t:=fun pins s σ H D I hw=>
 wpAny_mono (h pins s σ H D (I.wish _) hw) (fun _ _ q=>q.unwish) fun _ _ z=>False.elim z
end
section
variable {X:Cx} {st:Stmt} {rest:List Stmt} {t u:TS} {e:Expr} {te:TE} {pos:Pos}
def tNext:TS:=fun D σ H=>D.nx σ H
def tSeq (t u:TS):TS:=fun D σ H=>t { D with nx:=u D } σ H
theorem pss_nil:PSs X [] tNext:=fun _ _ σ H _ I h=>wpAny_execs_nil ⟨σ, H, I, h⟩
theorem pss_cons (h1:PS X st t) (h2:PSs X rest u):PSs X (st :: rest) (tSeq t u):=by
 intro pins s σ H D I h
 refine wpAny_execs_cons (thn (h1 pins s σ H { D with nx:=u D } I h) fun f s1 q=>?_)
 cases f with
 | next=>
   obtain ⟨σ', H', I', q⟩:=q
   exact h2 pins s1 σ' H' D I' q
 | ret v=>exact q
 | brk=>exact q
 | cont=>exact q
theorem pss_one (h1:PS X st t):PSs X [st] t:=by
 intro pins s σ H D I h
 refine wpAny_execs_cons (thn (h1 pins s σ H D I h) fun f s1 q=>?_)
 cases f with
 | next=>exact wpAny_execs_nil q
 | ret v=>exact q
 | brk=>exact q
 | cont=>exact q
theorem Inv.quiet {pins:List (Addr × Obj)} {σ:St} {H:Hp} {s:Shared} (I:Inv X pins σ H s):interactive X.env = false:=by simp [interactive, I.ok.kind]
def tDrop (te:TE):TS:=fun D σ H=>te σ H fun _ H1=>D.nx σ H1
theorem ps_expr (he:PE X e te) (hs:swapsWith e none pos.line X.env = pure false:=by rfl):PS X (.Expr e pos) (tDrop te):=by
 intro pins s σ H D I h
 exact wpAny_Expr_any (thn (he pins s σ H _ I h) fun v s1 ⟨x, H1, I1, r1, q1⟩=>⟨σ, H1, I1, q1⟩) I.quiet hs
def tRet (te:TE):TS:=fun D σ H=>te σ H D.rt
theorem ps_ret (he:PE X e te):PS X (.Return (some e) pos) (tRet te):=by
 intro pins s σ H D I h
 exact wpAny_Return_some (thn (he pins s σ H _ I h) fun v s1 ⟨x, H1, I1, r1, q1⟩=>⟨x, σ, H1, I1, r1, q1⟩)
def tIfS (c:TT) (t u:TS):TS:=fun D σ H=>c σ H fun b H1=>if b = true then t D σ H1 else u D σ H1
theorem ps_if {c:Expr} {a b:List Stmt} {tc:TT} (hc:PT X c tc) (ha:PSs X a t) (hb:PSs X b u):PS X (.If c a b pos) (tIfS tc t u):=by
 intro pins s σ H D I h
 refine wpAny_If (thn (hc pins s σ H _ I h) fun d s1 ⟨H1, I1, q1⟩=>?_)
 cases d with
 | true=>exact ha pins s1 σ H1 D I1 q1
 | false=>exact hb pins s1 σ H1 D I1 q1
def tNever:TS:=fun _ _ _=>False
theorem pss_never {sts:List Stmt}:PSs X sts tNever:=fun _ _ _ _ _ _ h=>h.elim
end
abbrev TG:=V -> St -> Hp -> (St -> Hp -> Prop) -> Prop
abbrev TGs:=List V -> St -> Hp -> (St -> Hp -> Prop) -> Prop
def PG (X:Cx) (target:Expr) (t:TG):Prop:=
 ∀ (pins:List (Addr × Obj)) (s:Shared) (σ:St) (H:Hp) (v:V) (u:Value) (Q:St -> Hp -> Prop), Inv X pins σ H s -> RelV v u -> t v σ H Q ->
  wpAny (model X.prog X.w) X.A (assign target X.env u) (fun _ s'=>∃ σ' H', Inv X pins σ' H' s' ∧ Q σ' H') X.xe s
def PGs (X:Cx) (ts:List Expr) (t:TGs):Prop:=
 ∀ (pins:List (Addr × Obj)) (s:Shared) (σ:St) (H:Hp) (vs:List V) (us:List Value) (Q:St -> Hp -> Prop), Inv X pins σ H s -> Vals vs us -> t vs σ H Q ->
  wpAny (model X.prog X.w) X.A (assignInOrder ((assignEach ts X.env).map (·.2)) us) (fun _ s'=>∃ σ' H', Inv X pins σ' H' s' ∧ Q σ' H') X.xe s
abbrev TSet:=V -> V -> V -> Hp -> (Hp -> Prop) -> Prop
def PSet (X:Cx) (t:TSet):Prop:=
 ∀ (pins:List (Addr × Obj)) (s:Shared) (σ:St) (H:Hp) (o i v:V) (ov iv u:Value) (Q:Hp -> Prop), Inv X pins σ H s -> RelV o ov -> RelV i iv -> RelV v u -> t o i v H Q ->
  wpAny (model X.prog X.w) X.A (setItem ov iv u) (fun _ s'=>∃ H', Inv X pins σ H' s' ∧ Q H') X.xe s
abbrev TIp:=V -> V -> Hp -> VK -> Prop
def PIp (X:Cx) (op:Operator) (t:TIp):Prop:=
 ∀ (pins:List (Addr × Obj)) (s:Shared) (σ:St) (H:Hp) (x y:V) (v u:Value) (Q:VK), Inv X pins σ H s -> RelV x v -> RelV y u -> t x y H Q ->
  wpAny (model X.prog X.w) X.A (inplaceOp op v u) (EP X pins σ Q) X.xe s
section
variable {X:Cx} {pos:Pos}
def gName (i:Nat):TG:=fun v σ H Q=>Q (σ.set i (some v)) H
theorem pg_name {i:Nat} {x:Str} (hN:X.N.Nodup) (hi:X.N[i]? = some x) (hx:Loc X.env.scope x) (hf:X.fn x = true ∨ X.env.scope.names.lookup x = some .local:=by first | exact .inl rfl | exact .inr rfl | assumption):PG X (.Name x pos) (gName i):=by
 intro pins s σ H v u Q I r h
 exact wpAny_assign_Name (store_ok I hN hi hx r (fun s' I'=>⟨_, H, I', h⟩) hf)
def gNil:TGs:=fun vs σ H Q=>vs = [] ∧ Q σ H
def gCons (t:TG) (u:TGs):TGs:=fun vs σ H Q=>∃ v r, vs = v :: r ∧ t v σ H fun σ' H'=>u r σ' H' Q
theorem pgs_nil:PGs X [] gNil:=by
 intro pins s σ H vs us Q I r h
 obtain ⟨e, h⟩:=h
 subst e
 cases r
 exact assignInOrder_nil ⟨σ, H, I, h⟩
theorem pgs_cons {e:Expr} {es:List Expr} {t:TG} {u:TGs} (h1:PG X e t) (h2:PGs X es u)
  (hs:(assignEach (e :: es) X.env).map (·.2) = assign e X.env :: (assignEach es X.env).map (·.2):=by rfl):PGs X (e :: es) (gCons t u):=by
 intro pins s σ H vs us Q I r h
 obtain ⟨v, vr, e1, h⟩:=h
 subst e1
 cases r with
 | cons r rr=>
   rw [hs]
   refine assignInOrder_cons (thn (h1 pins s σ H _ _ _ I r h) fun _ s1 ⟨σ1, H1, I1, q1⟩=>?_)
   exact h2 pins s1 σ1 H1 _ _ Q I1 rr q1
def gTup (K:PySem.W.Frag) (n:Nat) (t:TGs):TG:=fun v σ H Q=>∃ a xs, v = .ref a ∧ SqT K H a xs ∧ xs.length = n ∧ t xs σ H Q
theorem pg_tup {es:List Expr} {k:Nat} {t:TGs} {n:Nat} (hc:X.calm = true) (h:PGs X es t)
  (hn:(assignEach es X.env).length = n:=by rfl) (hst:(assignEach es X.env).findIdx? (·.1) = none:=by rfl):PG X (.Tuple es k pos) (gTup X.K n t):=by
 intro pins s σ H v u Q I r hw
 obtain ⟨a, xs, e1, hq, hl, hw⟩:=hw
 subst e1
 cases r
 obtain ⟨its, rv, ht, hz⟩:=I.tuple hq
 refine assign_Tuple_tuple (I.ok.hd hc) ht (by simp [hn, ← hl, rv.length]) hst fun h' hx=>?_
 have I1:Inv X pins σ H { s with heap:=h' }:=I.kept (t':=s.toks) fun b o e=>hx b o (Nat.ne_of_lt (Heap.lt_size e)) e
 exact h pins _ σ H xs _ Q I1 (by simpa using rv) hw
def gSub (to ti:TE) (t:TSet):TG:=fun v σ H Q=>to σ H fun o H1=>ti σ H1 fun i H2=>t o i v H2 fun H3=>Q σ H3
theorem pg_sub {o i:Expr} {to ti:TE} {t:TSet} (ho:PE X o to) (hi:PE X i ti) (hs:PSet X t)
  (ha:∀ v, assign (.Subscript o i pos) X.env v = (do
    let ov ← holding [v] (eval o X.env)
    let iv ← holding [v, ov] (eval i X.env)
    standAt pos
    holding [v, ov, iv] (setItem ov iv v)
    release [v, ov, iv] []):=by intro _; rfl):PG X (.Subscript o i pos) (gSub to ti t):=by
 intro pins s σ H v u Q I r h
 rw [ha]
 refine wpAny_bind (wpAny_holding (thn (ho pins s σ H _ I h) fun ov s1 ⟨x, H1, I1, r1, q1⟩=>?_))
 refine wpAny_bind (wpAny_holding (thn (hi pins s1 σ H1 _ I1 q1) fun iv s2 ⟨y, H2, I2, r2, q2⟩=>?_))
 refine wpAny_bind (wpAny_standAt (wpAny_bind (wpAny_holding (thn (hs pins s2 σ H2 x y v ov iv u _ I2 r1 r2 r q2) fun _ s3 ⟨H3, I3, q3⟩=>?_))))
 exact wpAny_release ⟨σ, H3, I3, q3⟩
def tAsg (te:TE) (g:TG):TS:=fun D σ H=>te σ H fun x H1=>g x σ H1 D.nx
theorem ps_asg {tg e:Expr} {te:TE} {g:TG} (he:PE X e te) (hg:PG X tg g) (hs:swapsWithSole [tg] e pos.line X.env = pure false:=by rfl) (hw:swappedStores [tg] e X.env = pure none:=by rfl)
  (h1:(assignEach [tg] X.env).map (·.2) = [assign tg X.env]:=by rfl):PS X (.Assign [tg] e pos) (tAsg te g):=by
 intro pins s σ H D I h
 refine wpAny_Assign_stores (thn (he pins s σ H _ I h) fun v s1 ⟨x, H1, I1, r1, q1⟩=>?_) hs hw
 rw [h1]
 exact thn (hg pins s1 σ H1 x v _ I1 r1 q1) fun _ s2 q=>q
theorem ps_set {i:Nat} {x:Str} {e:Expr} {te:TE} {pos':Pos} (hN:X.N.Nodup) (hi:X.N[i]? = some x) (hx:Loc X.env.scope x) (he:PE X e te) (hs:swapsWith e (some (.Name x pos')) pos.line X.env = pure false:=by rfl) (hf:X.fn x = true ∨ X.env.scope.names.lookup x = some .local:=by first | exact .inl rfl | exact .inr rfl | assumption) :
  PS X (.Assign [.Name x pos'] e pos) (tAsg te (gName i)):=by
 intro pins s σ H D I h
 refine wpAny_Assign_Name (thn (he pins s σ H _ I h) fun v s1 ⟨y, H1, I1, r1, q1⟩=>?_) hs
 exact store_ok I1 hN hi hx r1 (fun s2 I2=>⟨_, H1, I2, q1⟩) hf
def tAug (i:Nat) (te:TE) (ti:TIp):TS:=fun D σ H=>∃ x, σ[i]? = some (some x) ∧ te σ H fun y H1=>ti x y H1 fun z H2=>D.nx (σ.set i (some z)) H2
theorem ps_aug {i:Nat} {x:Str} {e:Expr} {te:TE} {op:Operator} {ti:TIp} {pos':Pos} (hN:X.N.Nodup) (hi:X.N[i]? = some x) (hx:Loc X.env.scope x) (he:PE X e te) (ho:PIp X op ti) (hf:X.fn x = true ∨ X.env.scope.names.lookup x = some .local:=by first | exact .inl rfl | exact .inr rfl | assumption) :
  PS X (.AugAssign (.Name x pos') op e pos) (tAug i te ti):=by
 intro pins s σ H D I h
 obtain ⟨v, e1, h⟩:=h
 obtain ⟨m, hn, hl⟩:=I.loc
 have vis:Vis X.env.scope x:=by rcases hx with k | k; exact .inl k; exact .inr (.inl k)
 obtain ⟨u, r, l⟩:=hl i x v hi e1 vis
 refine wpAny_AugAssign_Name ?_
 have go:wpAny (model X.prog X.w) X.A (eval e X.env) (fun w s₂=>wpAny (model X.prog X.w) X.A (inplaceOp op u w) (fun r s₃=>wpAny (model X.prog X.w) X.A (storeName X.env x r) (fun _=>SP X pins D .next) X.xe s₃) X.xe s₂) X.xe s:=by
  refine thn (he pins s σ H _ I h) fun w s1 ⟨y, H1, I1, r1, q1⟩=>?_
  refine thn (ho pins s1 σ H1 v y u w _ I1 r r1 q1) fun z s2 ⟨zv, H2, I2, r2, q2⟩=>?_
  exact store_ok I2 hN hi hx r2 (fun s3 I3=>⟨_, H2, I3, q2⟩) hf
 rcases l with ⟨hk, hm⟩ | ⟨hk, c, hc, hcell⟩
 ·exact wpAny_loadName_local I.ok.kind hk hn hm go
 ·rcases hk with hk | hk
  ·exact wpAny_loadName_cell I.ok.kind hk hc hcell go
  ·rcases hx with k | k
   ·have:X.env.scope.names.lookup x = some .free:=hk
    rw [k] at this; cases this
   ·have:X.env.scope.names.lookup x = some .free:=hk
    rw [k] at this; cases this
def ipI (f:Int -> Int -> Int):TIp:=fun x y H Q=>∃ i j, x = .int i ∧ y = .int j ∧ Q (.int (f i j)) H
theorem ip_add:PIp X .Add (ipI fun i j=>i + j):=by
 intro pins s σ H x y v u Q I r1 r2 h
 obtain ⟨i, j, e1, e2, q⟩:=h
 subst e1; subst e2
 obtain ⟨t, rfl⟩:=r1
 obtain ⟨t', rfl⟩:=r2
 exact iadd_int ⟨.int _, H, I.tok _, ⟨_, rfl⟩, q⟩
end
section
variable {X:Cx} {pos:Pos}
def tWhile (c:TT) (tb:TS):TS:=fun D σ H=>∃ W:Nat -> St -> Hp -> Prop, (∃ m, W m σ H) ∧ ∀ m σ H, W m σ H ->
 c σ H fun b H1=>if b = true then ∃ N:St -> Hp -> Prop, (∀ σ' H', N σ' H' -> ∃ m', m' < m ∧ W m' σ' H') ∧ tb { D with nx:=N, ct:=N, bk:=D.nx } σ H1 else D.nx σ H1
theorem ps_while {c:Expr} {body:List Stmt} {tc:TT} {tb:TS} (hp:PassesOwn (model X.prog X.w) X.A X.env X.xe) (hc:PT X c tc) (hb:PSs X body tb):PS X (.While c body [] pos) (tWhile tc tb):=by
 intro pins s σ H D I h
 obtain ⟨W, ⟨m0, w0⟩, turn⟩:=h
 refine wpAny_While (codeAny_whileLoop (fun n s'=>∃ σ' H', Inv X pins σ' H' s' ∧ W n σ' H') ?_ m0 ⟨σ, H, I, w0⟩)
 rintro n s1 ⟨σ1, H1, I1, w1⟩
 refine wpAny_passesOwn hp (thn (hc pins s1 σ1 H1 _ I1 (turn n σ1 H1 w1)) fun b s2 ⟨H2, I2, q2⟩=>?_)
 cases b with
 | true=>
   obtain ⟨N, hN, q2⟩:=q2
   rw [if_pos rfl]
   refine wpAny_passesOwn hp (thn (hb pins s2 σ1 H2 _ I2 q2) fun f s3 q3=>?_)
   cases f with
   | next=>
     obtain ⟨σ3, H3, I3, n3⟩:=q3
     obtain ⟨m', hm, w3⟩:=hN σ3 H3 n3
     exact ⟨m', hm, σ3, H3, I3, w3⟩
   | cont=>
     obtain ⟨σ3, H3, I3, n3⟩:=q3
     obtain ⟨m', hm, w3⟩:=hN σ3 H3 n3
     exact ⟨m', hm, σ3, H3, I3, w3⟩
   | brk=>exact q3
   | ret v=>exact q3
 | false=>
   rw [if_neg Bool.false_ne_true]
   exact wpAny_execs_nil ⟨σ1, H2, I2, q2⟩
end
structure It where
 go:Nat -> Hp -> Prop
 yld:Nat -> Hp -> V -> Hp -> Prop
 stop:Nat -> Hp -> Prop
def FpOk (X:Cx) (pins:List (Addr × Obj)) (H:Hp) (b:Addr):Prop:=
 H b = none ∧ b ≠ X.env.locals ∧ b ∉ X.fs ∧ (b ∈ X.ex ∨ X.s₀.heap.objs.size ≤ b) ∧ (∀ x c, X.env.cells.lookup x = some c -> c ≠ b) ∧ ∀ p ∈ X.pn ++ pins, p.1 ≠ b
theorem Inv.fpOk {X:Cx} {pins:List (Addr × Obj)} {σ:St} {H H':Hp} {s:Shared} {b:Addr} (I:Inv X pins σ H s) (hb:s.heap.objs.size ≤ b) (hn:H' b = none):FpOk X pins H' b:=by
 refine ⟨hn, Nat.ne_of_gt (Nat.lt_of_lt_of_le I.lt hb), I.nofs hb, .inr (Nat.le_trans I.sz hb), fun x c e z=>?_, fun p hp z=>?_⟩
 ·obtain ⟨v, q⟩:=I.cell x c e
  exact absurd (Nat.lt_of_lt_of_le q.lt (by rw [z]; exact hb)) (Nat.lt_irrefl _)
 ·exact absurd (Nat.lt_of_lt_of_le (Heap.lt_size (I.pin p hp).1) (by rw [z]; exact hb)) (Nat.lt_irrefl _)
structure Turn (P:Program) (w:World) (K:PySem.W.Frag) (tg:Expr) (J:It) (fp:List Addr) (it:Addr) (tn:Nat -> Heap -> Prop):Prop where
 mem:it ∈ fp
 obj:∀ i h, tn i h -> ∀ b ∈ fp, ∃ o, h.get? b = some o ∧ ∀ v, o.data ≠ .cell v
 keep:∀ i h h', tn i h -> (∀ b ∈ fp, ∀ o, h.get? b = some o -> h'.get? b = some o) -> tn i h'
 item:∀ (X:Cx), X.prog = P -> X.w = w -> X.K = K -> X.calm = true -> ∀ (i:Nat) (pins:List (Addr × Obj)) (s:Shared) (σ:St) (H:Hp) (E:Value -> Shared -> Prop), Inv X pins σ H s -> (∀ b ∈ fp, FpOk X pins H b) -> tn i s.heap -> J.go i H ->
  wpAny (model P w) X.A (pyNext (.ref it)) (fun r s1=>∃ u, r = some u ∧
   wpAny (model P w) X.A (letOwnedTupleGo tg (.ref it) u) (fun _ s2=>∃ x H', Inv X pins σ H' s2 ∧ RelV x u ∧ J.yld i H x H' ∧ tn (i + 1) s2.heap ∧ ∀ b ∈ fp, H' b = none) E s1) E s
 done:∀ (X:Cx), X.prog = P -> X.w = w -> X.K = K -> X.calm = true -> ∀ (i:Nat) (pins:List (Addr × Obj)) (s:Shared) (σ:St) (H:Hp) (E:Value -> Shared -> Prop), Inv X pins σ H s -> (∀ b ∈ fp, FpOk X pins H b) -> tn i s.heap -> J.stop i H ->
  wpAny (model P w) X.A (pyNext (.ref it)) (fun r s1=>r = none ∧ Inv X pins σ H s1) E s
 self:∀ (A:Around) (i:Nat) (s:Shared) (Q:Value -> Shared -> Prop) (E:Value -> Shared -> Prop), tn i s.heap -> Q (.ref it) s -> wpAny (model P w) A (pyIter (.ref it)) Q E s
abbrev TI:=St -> Hp -> (It -> Hp -> Prop) -> Prop
def PIE (X:Cx) (pins:List (Addr × Obj)) (σ:St) (tg:Expr) (R:It -> Hp -> Prop) (itv:Value) (s2:Shared):Prop:=
 ∃ (it:Addr) (fp:List Addr) (tn:Nat -> Heap -> Prop) (J:It) (H':Hp), itv = .ref it ∧ Inv X pins σ H' s2 ∧ Turn X.prog X.w X.K tg J fp it tn ∧ tn 0 s2.heap ∧ (∀ b ∈ fp, FpOk X pins H' b) ∧ R J H'
def PI (X:Cx) (tg iter:Expr) (wi:TI):Prop:=
 ∀ (pins:List (Addr × Obj)) (s:Shared) (σ:St) (H:Hp) (R:It -> Hp -> Prop), Inv X pins σ H s -> wi σ H R ->
  wpAny (model X.prog X.w) X.A (eval iter X.env) (fun v s1=>wpAny (model X.prog X.w) X.A (pyIter v) (PIE X pins σ tg R) X.xe s1) X.xe s
theorem go_of {M:Model} {A:Around} {E:Value -> Shared -> Prop} {s:Shared} {tg:Expr} {it:Addr} {u:Value} {o:Obj} {n:String} {vs:Array Value} {Q:Unit -> Shared -> Prop} (ho:s.heap.get? it = some o) (hc:o.cls = .type n) (hd:o.data = .fields vs)
  (hn:["enumerate", "zip", "dict_itemiterator", "dict_reverseitemiterator", "odict_iterator", "itertools.zip_longest", "itertools.pairwise"].contains n = false) (hQ:Q () s):wpAny M A (letOwnedTupleGo tg (.ref it) u) Q E s:=by
 unfold letOwnedTupleGo
 cases tg <;> first
  | exact wpAny_pure hQ
  | (cases u <;> first
      | exact wpAny_pure hQ
      | (refine wpAny_bind (wpAny_load ho ?_)
         rw [hc, hd]
         show wpAny M A (if (["enumerate", "zip", "dict_itemiterator", "dict_reverseitemiterator", "odict_iterator", "itertools.zip_longest", "itertools.pairwise"].contains n && vs[0]? == some (rawInt _)) = true then _ else _) Q E s
         rw [if_neg (by intro h; rw [hn, Bool.false_and] at h; cases h)]
         exact wpAny_pure hQ))
def Itl (K:PySem.W.Frag) (a:Addr):It:=
 ⟨fun i H=>∃ xs x, SqL K H a xs ∧ xs[i]? = some x, fun i H x H'=>H' = H ∧ ∀ xs, SqL K H a xs -> xs[i]? = some x, fun i H=>∃ xs, SqL K H a xs ∧ xs.length ≤ i⟩
def Itr (lo:Int) (n:Nat):It:=⟨fun i _=>i < n, fun i H x H'=>H' = H ∧ x = .int (lo + i), fun i _=>n ≤ i⟩
theorem turn_list {P:Program} {w:World} {K:PySem.W.Frag} {tg:Expr} (a it:Addr):Turn P w K tg (Itl K a) [it] it (fun i h=>h.IsListIter it a i) where
 mem:=by simp
 obj:=fun i h st b hb=>by
  have e:b = it:=by simpa using hb
  subst e
  obtain ⟨o, e, c, d⟩:=st
  exact ⟨o, e, fun v z=>by rw [d] at z; cases z⟩
 keep:=fun i h h' st k=>st.at fun o e=>k it (by simp) o e
 item:=by
  intro X hP hw hK hc i pins s σ H E I hf st hg
  subst hP hw hK
  obtain ⟨xs, x, hq, hx⟩:=hg
  obtain ⟨its, rv, p, hz⟩:=I.list hq
  obtain ⟨u, hu, ru⟩:=rv.get hx
  obtain ⟨f0, f1, f2, f3, f4, f5⟩:=hf it (by simp)
  refine wpAny_pyNext_list_item st p.isList (x:=u) (by simpa using hu) fun h' st' sb=>?_
  have I1:Inv X pins σ H { s with heap:=h' }:=I.turned (t':=s.toks) (fun b o hb e=>(sb.2 b hb).trans e) f0 f1 f3 f4 f5
  obtain ⟨o, e, c, d⟩:=id st'
  exact ⟨u, rfl, go_of (s:={ s with heap:=h' }) e c d (by decide) ⟨x, H, I1, ru, ⟨rfl, fun ys hy=>by rw [I.list_inj hy hq]; exact hx⟩, st', fun b hb=>(hf b hb).1⟩⟩
 done:=by
  intro X hP hw hK hc i pins s σ H E I hf st hg
  subst hP hw hK
  obtain ⟨xs, hq, hx⟩:=hg
  obtain ⟨its, rv, p, hz⟩:=I.list hq
  obtain ⟨f0, f1, f2, f3, f4, f5⟩:=hf it (by simp)
  have hl:=rv.length
  exact wpAny_pyNext_list_end (I.ok.hd hc) st p.isList (by simp; omega) fun h' eb=>⟨rfl, I.turned (t':=s.toks) (fun b o hb e=>eb b o hb e) f0 f1 f3 f4 f5⟩
 self:=fun _ _ _ _ _ st h=>wpAny_pyIter_listiter st h
theorem turn_range {P:Program} {w:World} {K:PySem.W.Frag} {tg:Expr} (it:Addr) (lo:Int) (n:Nat):Turn P w K tg (Itr lo n) [it] it (fun i h=>IsRangeIter h it (lo + (i:Nat) * 1) ((n:Int) - (i:Nat)) 1) where
 mem:=by simp
 obj:=fun i h st b hb=>by
  have e:b = it:=by simpa using hb
  subst e
  exact ⟨_, st, fun v z=>by
   have z':Data.fields _ = Data.cell v:=z
   cases z'⟩
 keep:=fun i h h' st k=>k it (by simp) _ st
 item:=by
  intro X hP hw hK hc i pins s σ H E I hf st hg
  subst hP hw hK
  obtain ⟨f0, f1, f2, f3, f4, f5⟩:=hf it (by simp)
  have W:=Walks.range (prog:=X.prog) (w:=X.w) (I.ok.hd hc) it lo 1 n
  refine W.item i s _ _ hg st fun v h' tk hv st' kk=>?_
  obtain ⟨t, rfl⟩:=hv
  have I1:Inv X pins σ H { s with heap:=h', toks:=tk }:=I.turned (fun b o hb e=>kk b o (by simpa using hb) e) f0 f1 f3 f4 f5
  refine ⟨_, rfl, go_of (s:={ s with heap:=h', toks:=tk }) (n:="range_iterator") st' rfl rfl (by decide) ⟨.int (lo + i), H, I1, ⟨t, ?_⟩, ⟨rfl, rfl⟩, st', fun b hb=>(hf b hb).1⟩⟩
  rw [Int.mul_one]
 done:=by
  intro X hP hw hK hc i pins s σ H E I hf st hg
  subst hP hw hK
  obtain ⟨f0, f1, f2, f3, f4, f5⟩:=hf it (by simp)
  exact wpAny_pyNext_range_end (I.ok.hd hc) st (by have:n ≤ i:=hg; omega) fun h' eb=>⟨rfl, I.turned (t':=s.toks) (fun b o hb e=>eb b o hb e) f0 f1 f3 f4 f5⟩
 self:=fun _ _ _ _ _ st h=>wpAny_pyIter_rangeiter st h
end L2
namespace L2
open PySem PySem.Spec PyProof.Rows
section
variable {X:Cx} {tg:Expr}
def iList (K:PySem.W.Frag) (tl:TE):TI:=fun σ H R=>tl σ H fun x H1=>∃ a, x = .ref a ∧ (∃ xs, SqL K H1 a xs) ∧ R (Itl K a) H1
theorem pi_list {l:Expr} {tl:TE} (hl:PE X l tl):PI X tg l (iList X.K tl):=by
 intro pins s σ H R I h
 refine thn (hl pins s σ H _ I h) fun v s1 ⟨x, H1, I1, r1, q1⟩=>?_
 obtain ⟨a, e, ⟨xs, hq⟩, q⟩:=q1
 subst e
 cases r1
 obtain ⟨its, rv, p, hz⟩:=I1.list hq
 refine wpAny_pyIter_list p.isList ?_
 refine ⟨s1.heap.objs.size, [s1.heap.objs.size], _, _, H1, rfl, I1.kept (t':=s1.toks) fun b o e=>Heap.get?_push_of_some _ e, turn_list a _, ⟨_, Heap.get?_push_size _ rfl, rfl, rfl⟩, fun b hb=>?_, q⟩
 have e:b = s1.heap.objs.size:=by simpa using hb
 subst e
 exact I1.fpOk (Nat.le_refl _) (I1.hok.fresh (Nat.le_refl _))
theorem range_it {pins:List (Addr × Obj)} {σ:St} {H:Hp} {s:Shared} {R:It -> Hp -> Prop} {E:Value -> Shared -> Prop} {lo hi:Int} {t u v:Tok} {tk:Nat} (I:Inv X pins σ H s) (h1:-(2 ^ 62) ≤ lo) (h2:lo < 2 ^ 62) (h3:-(2 ^ 62) ≤ hi) (h4:hi < 2 ^ 62)
  (q:R (Itr lo (hi - lo).toNat) H):wpAny (model X.prog X.w) X.A (pyIter (.ref s.heap.objs.size)) (PIE X pins σ tg R) E { s with heap:=s.heap.push { cls:=.type "range", data:=.fields #[.int lo t, .int hi u, .int 1 v] }, toks:=tk }:=by
 refine wpAny_pyIter_range (IsRange.new ..) (small_one h1 h2 h3 h4) ?_
 have I1:Inv X pins σ H { s with heap:=s.heap.push { cls:=.type "range", data:=.fields #[.int lo t, .int hi u, .int 1 v] }, toks:=tk }:=I.kept fun b o e=>Heap.get?_push_of_some _ e
 refine ⟨(s.heap.push { cls:=.type "range", data:=.fields #[.int lo t, .int hi u, .int 1 v] }).objs.size, [(s.heap.push { cls:=.type "range", data:=.fields #[.int lo t, .int hi u, .int 1 v] }).objs.size], _, _, H, rfl,
  I1.kept (t':=tk) fun b o e=>Heap.get?_push_of_some _ e, turn_range _ lo (hi - lo).toNat, ?_, fun b hb=>?_, q⟩
 ·have e1:lo + ((0:Nat):Int) * 1 = lo:=by simp
  have e2:(((hi - lo).toNat:Nat):Int) - ((0:Nat):Int) = Builtin.Range.rangeSize lo hi 1:=by rw [rangeSize_one]; split <;> omega
  show IsRangeIter _ _ (lo + ((0:Nat):Int) * 1) ((((hi - lo).toNat:Nat):Int) - ((0:Nat):Int)) 1
  rw [e1, e2]
  exact Heap.get?_push_size _ rfl
 ·have e:b = (s.heap.push { cls:=.type "range", data:=.fields #[.int lo t, .int hi u, .int 1 v] }).objs.size:=by simpa using hb
  subst e
  exact I1.fpOk (Nat.le_refl _) (I1.hok.fresh (Nat.le_refl _))
def iRng1 (ta:TA):TI:=fun σ H R=>ta σ H fun vs H1=>∃ j:Int, vs = [.int j] ∧ -(2 ^ 62) ≤ j ∧ j < 2 ^ 62 ∧ R (Itr 0 j.toNat) H1
theorem pi_range1 {a:Expr} {ta:TA} {p pos:Pos} (hg:Gl X "range") (hm:X.mg "range" = none) (ha:PA X [a] ta) (hs:starEach [a] X.env = [(false, eval a X.env)]:=by rfl):PI X tg (.Call (.Name "range" p) [a] [] pos) (iRng1 ta):=by
 intro pins s σ H R I h
 refine Call_ (ld_blt I hg hm boot_range (PyProof.Rows.callWith_type1 (thn (ha pos pins s σ H _ I h) fun us s1 ⟨vs, H1, I1, r1, q1⟩=>?_) hs rfl))
 obtain ⟨j, e, q1, q2, q⟩:=q1
 subst e
 cases r1 with
 | cons r rr=>
   cases rr
   obtain ⟨t, rfl⟩:=r
   exact call_range_1 (range_it I1 (by omega) (by omega) q1 q2 (by simpa using q))
def tFor (wi:TI) (g:TG) (tb:TS):TS:=fun D σ H=>wi σ H fun J H1=>∃ W:Nat -> Nat -> St -> Hp -> Prop, (∃ m, W 0 m σ H1) ∧ ∀ i m σ H, W i m σ H ->
 (J.stop i H ∧ D.nx σ H) ∨ (J.go i H ∧ ∃ N:St -> Hp -> Prop, (∀ σ' H', N σ' H' -> ∃ m', m' < m ∧ W (i + 1) m' σ' H') ∧ ∀ x H', J.yld i H x H' -> g x σ H' fun σ2 H2=>tb { D with nx:=N, ct:=N, bk:=D.nx } σ2 H2)
def pinsAt (fp:List Addr) (h:Heap):List (Addr × Obj):=fp.filterMap fun b=>(h.get? b).map fun o=>(b, o)
theorem mem_pinsAt {fp:List Addr} {h:Heap} {b:Addr} {o:Obj} (hb:b ∈ fp) (e:h.get? b = some o):(b, o) ∈ pinsAt fp h:=List.mem_filterMap.mpr ⟨b, hb, by rw [e]; rfl⟩
theorem of_pinsAt {fp:List Addr} {h:Heap} {p:Addr × Obj} (hp:p ∈ pinsAt fp h):p.1 ∈ fp ∧ h.get? p.1 = some p.2:=by
 obtain ⟨b, hb, e⟩:=List.mem_filterMap.mp hp
 cases q:h.get? b with
 | none=>rw [q] at e; cases e
 | some o=>
   rw [q] at e
   have e':(b, o) = p:=Option.some.inj e
   subst e'
   exact ⟨hb, q⟩
theorem Inv.pinned {pins:List (Addr × Obj)} {σ:St} {H:Hp} {s:Shared} {fp:List Addr} (I:Inv X pins σ H s) (hf:∀ b ∈ fp, FpOk X pins H b) (ho:∀ b ∈ fp, ∃ o, s.heap.get? b = some o ∧ ∀ v, o.data ≠ .cell v):Inv X (pins ++ pinsAt fp s.heap) σ H s:=
 I.pins_of fun p hp=>(List.mem_append.mp hp).elim (fun z=>I.pin p (List.mem_append_right _ z)) fun z=>by
  obtain ⟨hb, e⟩:=of_pinsAt z
  obtain ⟨f0, f1, f2, _⟩:=hf p.1 hb
  obtain ⟨o, e', d⟩:=ho p.1 hb
  rw [e] at e'; cases e'
  exact ⟨e, f0, f1, f2, d⟩
theorem Inv.unpinned {pins pl:List (Addr × Obj)} {σ:St} {H:Hp} {s:Shared} (I:Inv X (pins ++ pl) σ H s):Inv X pins σ H s:=I.pins_of fun p hp=>I.pin p (List.mem_append_right _ (List.mem_append_left _ hp))
theorem ps_for {iter:Expr} {body:List Stmt} {wi:TI} {g:TG} {tb:TS} {pos:Pos} (hp:PassesOwn (model X.prog X.w) X.A X.env X.xe) (hc:X.calm = true) (hi:PI X tg iter wi) (hg:PG X tg g) (hb:PSs X body tb)
  (hs:∀ x, foldedSetIterable iter X.env x = pure x:=by intro _; rfl):PS X (.For tg iter body [] pos) (tFor wi g tb):=by
 intro pins s σ H D I h
 refine wpAny_For (thn (hi pins s σ H _ I h) fun v s1 h1=>thn h1 fun itv s2 h2=>?_) hs
 obtain ⟨it, fp, tn, J, H2, e, I2, T, st2, f2, W, ⟨m0, w0⟩, turn⟩:=h2
 subst e
 have stat:∀ {H':Hp}, (∀ b ∈ fp, H' b = none) -> ∀ b ∈ fp, FpOk X pins H' b:=fun hn b hb=>⟨hn b hb, (f2 b hb).2⟩
 refine codeAny_forLoop_any (fun n s'=>∃ i σ' H', Inv X pins σ' H' s' ∧ tn i s'.heap ∧ (∀ b ∈ fp, H' b = none) ∧ W i n σ' H') ?_ m0 ⟨0, σ, H2, I2, st2, fun b hb=>(f2 b hb).1, w0⟩
 rintro n s3 ⟨i, σ3, H3, I3, st3, fr3, w3⟩
 rcases turn i n σ3 H3 w3 with ⟨stop, qn⟩ | ⟨go, N, hN, step⟩
 ·refine wpAny_passesOwn hp (thn (T.done X rfl rfl rfl hc i pins s3 σ3 H3 X.xe I3 (stat fr3) st3 stop) fun r s4 ⟨hr, I4⟩=>?_)
  subst hr
  exact wpAny_execs_nil ⟨σ3, H3, I4, qn⟩
 ·refine wpAny_passesOwn hp (thn (T.item X rfl rfl rfl hc i pins s3 σ3 H3 X.xe I3 (stat fr3) st3 go) fun r s4 ⟨u, hr, h4⟩=>?_)
  subst hr
  refine wpAny_passesOwn hp (thn h4 fun _ s5 ⟨x, H5, I5, r5, y5, st5, fr5⟩=>?_)
  have I5':=I5.pinned (stat fr5) (T.obj _ _ st5)
  refine wpAny_passesOwn hp (thn (hg _ s5 σ3 H5 x u _ I5' r5 (step x H5 y5)) fun _ s6 ⟨σ6, H6, I6, q6⟩=>?_)
  refine wpAny_passesOwn hp (thn (hb _ s6 σ6 H6 _ I6 q6) fun f s7 q7=>?_)
  have again:∀ {σ7:St} {H7:Hp}, Inv X (pins ++ pinsAt fp s5.heap) σ7 H7 s7 -> N σ7 H7 -> ∃ m, m < n ∧ ∃ i σ' H', Inv X pins σ' H' s7 ∧ tn i s7.heap ∧ (∀ b ∈ fp, H' b = none) ∧ W i m σ' H':=fun {σ7 H7} I7 n7=>by
   obtain ⟨m', hm, w7⟩:=hN σ7 H7 n7
   refine ⟨m', hm, i + 1, σ7, H7, I7.unpinned, T.keep _ _ _ st5 fun b hb o e=>(I7.pin (b, o) (List.mem_append_right _ (List.mem_append_right _ (mem_pinsAt hb e)))).1, fun b hb=>?_, w7⟩
   obtain ⟨o, e, d⟩:=T.obj _ _ st5 b hb
   exact (I7.pin (b, o) (List.mem_append_right _ (List.mem_append_right _ (mem_pinsAt hb e)))).2.1
  cases f with
  | next=>obtain ⟨σ7, H7, I7, n7⟩:=q7; exact again I7 n7
  | cont=>obtain ⟨σ7, H7, I7, n7⟩:=q7; exact again I7 n7
  | brk=>obtain ⟨σ7, H7, I7, q7⟩:=q7; exact ⟨σ7, H7, I7.unpinned, q7⟩
  | ret v=>obtain ⟨x7, σ7, H7, I7, r7, q7⟩:=q7; exact ⟨x7, σ7, H7, I7.unpinned, r7, q7⟩
end
theorem for_list {K:PySem.W.Frag} {a:Addr} {xs:List V} {g:TG} {tb:TS} {D:Ends} {σ:St} {H:Hp} (Pv:Nat -> St -> Hp -> Prop) (h0:Pv 0 σ H) (hl:∀ i σ H, i ≤ xs.length -> Pv i σ H -> SqL K H a xs)
  (hs:∀ i x σ H, xs[i]? = some x -> Pv i σ H -> g x σ H fun σ2 H2=>tb { D with nx:=Pv (i + 1), ct:=Pv (i + 1), bk:=D.nx } σ2 H2) (hd:∀ σ H, Pv xs.length σ H -> D.nx σ H) :
  ∃ W:Nat -> Nat -> St -> Hp -> Prop, (∃ m, W 0 m σ H) ∧ ∀ i m σ H, W i m σ H ->
   ((Itl K a).stop i H ∧ D.nx σ H) ∨ ((Itl K a).go i H ∧ ∃ N:St -> Hp -> Prop, (∀ σ' H', N σ' H' -> ∃ m', m' < m ∧ W (i + 1) m' σ' H') ∧ ∀ x H', (Itl K a).yld i H x H' -> g x σ H' fun σ2 H2=>tb { D with nx:=N, ct:=N, bk:=D.nx } σ2 H2):=by
 refine ⟨fun i m σ H=>m = xs.length - i ∧ i ≤ xs.length ∧ Pv i σ H, ⟨xs.length, by simp, Nat.zero_le _, h0⟩, ?_⟩
 rintro i m σ H ⟨rfl, hi, p⟩
 have q:=hl i σ H hi p
 by_cases hlt:i < xs.length
 ·refine .inr ⟨⟨xs, xs[i], q, by simp [hlt]⟩, Pv (i + 1), fun σ' H' p'=>⟨xs.length - (i + 1), by omega, rfl, hlt, p'⟩, fun x H' y=>?_⟩
  obtain ⟨e, y⟩:=y
  subst e
  exact hs i x σ _ (y xs q) p
 ·have e:i = xs.length:=by omega
  subst e
  exact .inl ⟨⟨xs, q, Nat.le_refl _⟩, hd σ H p⟩
theorem for_range {lo:Int} {n:Nat} {g:TG} {tb:TS} {D:Ends} {σ:St} {H:Hp} (Pv:Nat -> St -> Hp -> Prop) (h0:Pv 0 σ H)
  (hs:∀ i σ H, i < n -> Pv i σ H -> g (.int (lo + i)) σ H fun σ2 H2=>tb { D with nx:=Pv (i + 1), ct:=Pv (i + 1), bk:=D.nx } σ2 H2) (hd:∀ σ H, Pv n σ H -> D.nx σ H) :
  ∃ W:Nat -> Nat -> St -> Hp -> Prop, (∃ m, W 0 m σ H) ∧ ∀ i m σ H, W i m σ H ->
   ((Itr lo n).stop i H ∧ D.nx σ H) ∨ ((Itr lo n).go i H ∧ ∃ N:St -> Hp -> Prop, (∀ σ' H', N σ' H' -> ∃ m', m' < m ∧ W (i + 1) m' σ' H') ∧ ∀ x H', (Itr lo n).yld i H x H' -> g x σ H' fun σ2 H2=>tb { D with nx:=N, ct:=N, bk:=D.nx } σ2 H2):=by
 refine ⟨fun i m σ H=>m = n - i ∧ i ≤ n ∧ Pv i σ H, ⟨n, by simp, Nat.zero_le _, h0⟩, ?_⟩
 rintro i m σ H ⟨rfl, hi, p⟩
 by_cases hlt:i < n
 ·refine .inr ⟨hlt, Pv (i + 1), fun σ' H' p'=>⟨n - (i + 1), by omega, rfl, hlt, p'⟩, fun x H' y=>?_⟩
  obtain ⟨e, y⟩:=y
  subst e y
  exact hs i σ _ hlt p
 ·have e:i = n:=by omega
  subst e
  exact .inl ⟨Nat.le_refl _, hd σ H p⟩
end L2
namespace L2
open PySem PySem.Spec PyProof.Rows
abbrev R2:=V -> V -> Hp -> VK -> Prop
def OpR (X:Cx) (f:Value -> Value -> Sem Value) (r:R2):Prop:=
 ∀ (pins:List (Addr × Obj)) (s:Shared) (σ:St) (H:Hp) (x y:V) (v u:Value) (Q:VK), Inv X pins σ H s -> RelV x v -> RelV y u -> r x y H Q ->
  wpAny (model X.prog X.w) X.A (f v u) (EP X pins σ Q) X.xe s
def UnR (X:Cx) (f:Value -> Sem Value) (r:V -> Hp -> VK -> Prop):Prop:=
 ∀ (pins:List (Addr × Obj)) (s:Shared) (σ:St) (H:Hp) (x:V) (v:Value) (Q:VK), Inv X pins σ H s -> RelV x v -> r x H Q ->
  wpAny (model X.prog X.w) X.A (f v) (EP X pins σ Q) X.xe s
def CallR (X:Cx) (f:Value) (r:List V -> Hp -> VK -> Prop):Prop:=
 ∀ (pins:List (Addr × Obj)) (s:Shared) (σ:St) (H:Hp) (xs:List V) (us:List Value) (Q:VK), Inv X pins σ H s -> Vals xs us -> r xs H Q ->
  wpAny (model X.prog X.w) X.A (call f us) (EP X pins σ Q) X.xe s
def TruR (X:Cx) (r:V -> Hp -> (Bool -> Hp -> Prop) -> Prop):Prop:=
 ∀ (pins:List (Addr × Obj)) (s:Shared) (σ:St) (H:Hp) (x:V) (v:Value) (Q:Bool -> Hp -> Prop), Inv X pins σ H s -> RelV x v -> r x H Q ->
  wpAny (model X.prog X.w) X.A (truthy v) (TP X pins σ Q) X.xe s
def tOp (r:R2) (ta tb:TE):TE:=fun σ H Q=>ta σ H fun x H1=>tb σ H1 fun y H2=>r x y H2 Q
def tUn (r:V -> Hp -> VK -> Prop) (ta:TE):TE:=fun σ H Q=>ta σ H fun x H1=>r x H1 Q
def rI (C:Int -> Int -> Prop) (g:Int -> Int -> V):R2:=fun x y H Q=>∃ i j, x = .int i ∧ y = .int j ∧ C i j ∧ Q (g i j) H
def rI0 (g:Int -> Int -> V):R2:=fun x y H Q=>∃ i j, x = .int i ∧ y = .int j ∧ Q (g i j) H
def rU (g:Int -> V):V -> Hp -> VK -> Prop:=fun x H Q=>∃ i, x = .int i ∧ Q (g i) H
section
variable {X:Cx} {a b c:Expr} {ta tb tc:TE} {pos:Pos}
theorem binT (ha:PE X a ta) (hb:PE X b tb) {pins:List (Addr × Obj)} {s:Shared} {σ:St} {H:Hp} {R:V -> V -> Hp -> Prop} (I:Inv X pins σ H s)
  (h:ta σ H fun x H1=>tb σ H1 fun y H2=>R x y H2) {Q:Value -> Shared -> Prop} {f:Value -> Value -> Sem Value}
  (hf:∀ v u s2 x y H2, Inv X pins σ H2 s2 -> RelV x v -> RelV y u -> R x y H2 -> wpAny (model X.prog X.w) X.A (f v u) Q X.xe s2) :
  wpAny (model X.prog X.w) X.A (eval a X.env) (fun v s₁=>wpAny (model X.prog X.w) X.A (eval b X.env) (fun u s₂=>wpAny (model X.prog X.w) X.A (f v u) Q X.xe s₂) X.xe s₁) X.xe s:=by
 refine thn (ha pins s σ H _ I h) fun v s1 ⟨x, H1, I1, r1, q1⟩=>?_
 refine thn (hb pins s1 σ H1 _ I1 q1) fun u s2 ⟨y, H2, I2, r2, q2⟩=>?_
 exact hf v u s2 x y H2 I2 r1 r2 q2
theorem pe_op {op:Operator} {r:R2} (ho:OpR X (binaryOp op) r) (ha:PE X a ta) (hb:PE X b tb):PE X (.BinOp a op b pos) (tOp r ta tb):=by
 intro pins s σ H Q I h
 exact wpAny_BinOp (binT ha hb I h fun v u s2 x y H2 I2 rx ry q=>ho pins s2 σ H2 x y v u Q I2 rx ry q)
theorem pe_un {op:UnaryOp} {r:V -> Hp -> VK -> Prop} (ho:UnR X (unaryOp op) r) (ha:PE X a ta):PE X (.UnaryOp op a pos) (tUn r ta):=by
 intro pins s σ H Q I h
 exact UnaryOp_ (thn (ha pins s σ H _ I h) fun v s1 ⟨x, H1, I1, r1, q1⟩=>ho pins s1 σ H1 x v Q I1 r1 q1)
theorem opI {f:Value -> Value -> Sem Value} {C:Int -> Int -> Prop} {g:Int -> Int -> Int}
  (rule:∀ (i j:Int) (t u:Tok) (s:Shared) (Q:Value -> Shared -> Prop) (E:Value -> Shared -> Prop), C i j -> Q (.int (g i j) s.toks) { s with toks:=s.toks + 1 } -> wpAny (model X.prog X.w) X.A (f (.int i t) (.int j u)) Q E s) :
  OpR X f (rI C fun i j=>.int (g i j)):=by
 intro pins s σ H x y v u Q I rx ry h
 obtain ⟨i, j, rfl, rfl, hc, q⟩:=h
 obtain ⟨t, rfl⟩:=rx
 obtain ⟨t', rfl⟩:=ry
 exact rule i j t t' s _ _ hc ⟨.int (g i j), H, I.tok _, ⟨_, rfl⟩, q⟩
theorem opI0 {f:Value -> Value -> Sem Value} {g:Int -> Int -> Int}
  (rule:∀ (i j:Int) (t u:Tok) (s:Shared) (Q:Value -> Shared -> Prop) (E:Value -> Shared -> Prop), Q (.int (g i j) s.toks) { s with toks:=s.toks + 1 } -> wpAny (model X.prog X.w) X.A (f (.int i t) (.int j u)) Q E s) :
  OpR X f (rI0 fun i j=>.int (g i j)):=by
 intro pins s σ H x y v u Q I rx ry h
 obtain ⟨i, j, rfl, rfl, q⟩:=h
 obtain ⟨t, rfl⟩:=rx
 obtain ⟨t', rfl⟩:=ry
 exact rule i j t t' s _ _ ⟨.int (g i j), H, I.tok _, ⟨_, rfl⟩, q⟩
theorem opB0 {f:Value -> Value -> Sem Value} {g:Int -> Int -> Bool}
  (rule:∀ (i j:Int) (t u:Tok) (s:Shared) (Q:Value -> Shared -> Prop) (E:Value -> Shared -> Prop), Q (.bool (g i j)) s -> wpAny (model X.prog X.w) X.A (f (.int i t) (.int j u)) Q E s) :
  OpR X f (rI0 fun i j=>.bl (g i j)):=by
 intro pins s σ H x y v u Q I rx ry h
 obtain ⟨i, j, rfl, rfl, q⟩:=h
 obtain ⟨t, rfl⟩:=rx
 obtain ⟨t', rfl⟩:=ry
 exact rule i j t t' s _ _ ⟨.bl (g i j), H, I, rfl, q⟩
def CDiv (i j:Int):Prop:=0 < j ∧ j < 1073741824
def CPow (i j:Int):Prop:=0 ≤ j ∧ j ≤ 1000000 ∧ i.natAbs < 2 ^ 64
def CMul (i j:Int):Prop:=(-(2 ^ 64) < i ∧ i < 2 ^ 64) ∨ (-(2 ^ 64) < j ∧ j < 2 ^ 64)
theorem CMul.ok {i j:Int} (h:CMul i j):IntMulOk i j:=by
 rcases h with ⟨h1, h2⟩ | ⟨h1, h2⟩
 ·exact .of_left (intBits_le_64 h1 h2)
 ·exact .of_right (intBits_le_64 h1 h2)
theorem op_add:OpR X (binaryOp .Add) (rI0 fun i j=>.int (i + j)):=opI0 fun _ _ _ _ _ _ _ q=>add_int q
theorem op_sub:OpR X (binaryOp .Sub) (rI0 fun i j=>.int (i - j)):=opI0 fun _ _ _ _ _ _ _ q=>sub_int q
theorem op_mul:OpR X (binaryOp .Mult) (rI CMul fun i j=>.int (i * j)):=opI fun _ _ _ _ _ _ _ hc q=>mul_int q hc.ok
theorem op_fdiv:OpR X (binaryOp .FloorDiv) (rI CDiv fun i j=>.int (i / j)):=opI fun i j _ _ _ _ _ hc q=>by
 have h1:(0:Int) < j:=hc.1
 have h2:j < 1073741824:=hc.2
 exact floordiv_int (by omega) (by rw [Int.fdiv_eq_ediv_of_nonneg i (by omega)]; exact q) (.inl (PyProof.noPylong_small (by omega)))
theorem op_mod:OpR X (binaryOp .Mod) (rI (fun _ j=>0 < j) fun i j=>.int (i % j)):=opI fun i j _ _ _ _ _ hc q=>by
 have h1:(0:Int) < j:=hc
 exact mod_int' (by omega) (by rw [Int.fmod_eq_emod_of_nonneg i (by omega)]; exact q)
theorem op_pow:OpR X (binaryOp .Pow) (rI CPow fun i j=>.int (i ^ j.toNat)):=opI fun _ _ _ _ _ _ _ hc q=>pow_int_small hc.1 hc.2.1 hc.2.2 q
theorem unI {f:Value -> Sem Value} {g:Int -> Int}
  (rule:∀ (i:Int) (t:Tok) (s:Shared) (Q:Value -> Shared -> Prop) (E:Value -> Shared -> Prop), Q (.int (g i) s.toks) { s with toks:=s.toks + 1 } -> wpAny (model X.prog X.w) X.A (f (.int i t)) Q E s) :
  UnR X f (rU fun i=>.int (g i)):=by
 intro pins s σ H x v Q I rx h
 obtain ⟨i, rfl, q⟩:=h
 obtain ⟨t, rfl⟩:=rx
 exact rule i t s _ _ ⟨.int (g i), H, I.tok _, ⟨_, rfl⟩, q⟩
theorem un_neg:UnR X (unaryOp .USub) (rU fun i=>.int (-i)):=unI fun _ _ _ _ _ q=>neg_int q
end
def scal:V -> V -> Bool
 | .non, .non=>true | .non, .int _=>true | .int _, .non=>true | .non, .bl _=>true | .bl _, .non=>true | .non, .str _=>true | .str _, .non=>true
 | .int _, .int _=>true | .bl _, .bl _=>true | .str _, .str _=>true | .byt _, .byt _=>true
 | .int _, .str _=>true | .str _, .int _=>true | .bl _, .str _=>true | .str _, .bl _=>true
 | _, _=>false
def rEq:R2:=fun x y H Q=>scal x y = true ∧ Q (.bl (decide (x = y))) H
def rNe:R2:=fun x y H Q=>scal x y = true ∧ Q (.bl (!decide (x = y))) H
theorem dec_int {i j:Int}:decide (V.int i = V.int j) = (i == j):=by
 rw [Bool.eq_iff_iff]
 simp
theorem dec_bl {i j:Bool}:decide (V.bl i = V.bl j) = (i == j):=by
 rw [Bool.eq_iff_iff]
 simp
theorem dec_str {i j:Str}:decide (V.str i = V.str j) = (i == j):=by
 rw [Bool.eq_iff_iff]
 simp
theorem dec_byt {i j:Array UInt8}:decide (V.byt i = V.byt j) = (i.toList == j.toList):=by
 rw [Bool.eq_iff_iff]
 cases i
 cases j
 simp
section
variable {X:Cx} {a b c:Expr} {ta tb tc:TE} {pos:Pos}
theorem fin_bl {pins:List (Addr × Obj)} {σ:St} {H:Hp} {s:Shared} {Q:VK} {k k':Bool} (I:Inv X pins σ H s) (q:Q (.bl k) H) (e:k = k'):EP X pins σ Q (.bool k') s:=by
 subst e
 exact ⟨.bl k, H, I, rfl, q⟩
theorem op_eq:OpR X (compareOp .Eq) rEq:=by
 intro pins s σ H x y v u Q I rx ry h
 obtain ⟨hs, q⟩:=h
 cases x with
 | non=>
   cases rx
   cases y with
   | non=>cases ry; exact PySem.EqNone.eq_none_none (fin_bl I q (by simp))
   | bl j=>cases ry; exact PySem.EqNone.eq_none_bool (fin_bl I q (by simp))
   | int j=>obtain ⟨t', rfl⟩:=ry; exact PySem.EqNone.eq_none_int (fin_bl I q (by simp))
   | str j=>obtain ⟨t', rfl⟩:=ry; exact PySem.EqNone.eq_none_str (fin_bl I q (by simp))
   | _=>exact absurd (show false = true from hs) Bool.false_ne_true
 | bl i=>
   cases rx
   cases y with
   | non=>cases ry; exact PySem.EqNone.eq_bool_none (fin_bl I q (by simp))
   | bl j=>cases ry; exact eq_bool (fin_bl I q dec_bl)
   | str j=>obtain ⟨t', rfl⟩:=ry; exact PySem.EqMixed.eq_bool_str (fin_bl I q (by simp))
   | _=>exact absurd (show false = true from hs) Bool.false_ne_true
 | int i=>
   obtain ⟨t, rfl⟩:=rx
   cases y with
   | non=>cases ry; exact PySem.EqNone.eq_int_none (fin_bl I q (by simp))
   | int j=>obtain ⟨t', rfl⟩:=ry; exact eq_int (fin_bl I q dec_int)
   | str j=>obtain ⟨t', rfl⟩:=ry; exact PySem.EqMixed.eq_int_str (fin_bl I q (by simp))
   | _=>exact absurd (show false = true from hs) Bool.false_ne_true
 | str i=>
   obtain ⟨t, rfl⟩:=rx
   cases y with
   | non=>cases ry; exact PySem.EqNone.eq_str_none (fin_bl I q (by simp))
   | bl j=>cases ry; exact PySem.EqMixed.eq_str_bool (fin_bl I q (by simp))
   | int j=>obtain ⟨t', rfl⟩:=ry; exact PySem.EqMixed.eq_str_int (fin_bl I q (by simp))
   | str j=>obtain ⟨t', rfl⟩:=ry; exact eq_str (fin_bl I q dec_str)
   | _=>exact absurd (show false = true from hs) Bool.false_ne_true
 | byt i=>
   obtain ⟨t, rfl⟩:=rx
   cases y with
   | byt j=>obtain ⟨t', rfl⟩:=ry; exact PySem.W.eq_bytes (fin_bl I q dec_byt)
   | _=>exact absurd (show false = true from hs) Bool.false_ne_true
 | _=>cases y <;> exact absurd (show false = true from hs) Bool.false_ne_true
theorem op_ne:OpR X (compareOp .NotEq) rNe:=by
 intro pins s σ H x y v u Q I rx ry h
 obtain ⟨hs, q⟩:=h
 cases x with
 | non=>
   cases rx
   cases y with
   | non=>cases ry; exact PySem.EqNone.ne_none_none (fin_bl I q (by simp))
   | bl j=>cases ry; exact PySem.EqNone.ne_none_bool (fin_bl I q (by simp))
   | int j=>obtain ⟨t', rfl⟩:=ry; exact PySem.EqNone.ne_none_int (fin_bl I q (by simp))
   | str j=>obtain ⟨t', rfl⟩:=ry; exact PySem.EqNone.ne_none_str (fin_bl I q (by simp))
   | _=>exact absurd (show false = true from hs) Bool.false_ne_true
 | bl i=>
   cases rx
   cases y with
   | non=>cases ry; exact PySem.EqNone.ne_bool_none (fin_bl I q (by simp))
   | bl j=>cases ry; exact ne_bool (fin_bl I q (congrArg not dec_bl))
   | str j=>obtain ⟨t', rfl⟩:=ry; exact PySem.EqMixed.ne_bool_str (fin_bl I q (by simp))
   | _=>exact absurd (show false = true from hs) Bool.false_ne_true
 | int i=>
   obtain ⟨t, rfl⟩:=rx
   cases y with
   | non=>cases ry; exact PySem.EqNone.ne_int_none (fin_bl I q (by simp))
   | int j=>obtain ⟨t', rfl⟩:=ry; exact ne_int (fin_bl I q (congrArg not dec_int))
   | str j=>obtain ⟨t', rfl⟩:=ry; exact PySem.EqMixed.ne_int_str (fin_bl I q (by simp))
   | _=>exact absurd (show false = true from hs) Bool.false_ne_true
 | str i=>
   obtain ⟨t, rfl⟩:=rx
   cases y with
   | non=>cases ry; exact PySem.EqNone.ne_str_none (fin_bl I q (by simp))
   | bl j=>cases ry; exact PySem.EqMixed.ne_str_bool (fin_bl I q (by simp))
   | int j=>obtain ⟨t', rfl⟩:=ry; exact PySem.EqMixed.ne_str_int (fin_bl I q (by simp))
   | str j=>obtain ⟨t', rfl⟩:=ry; exact ne_str (fin_bl I q (congrArg not dec_str))
   | _=>exact absurd (show false = true from hs) Bool.false_ne_true
 | byt i=>
   obtain ⟨t, rfl⟩:=rx
   cases y with
   | byt j=>obtain ⟨t', rfl⟩:=ry; exact PySem.W.ne_bytes (fin_bl I q (congrArg not dec_byt))
   | _=>exact absurd (show false = true from hs) Bool.false_ne_true
 | _=>cases y <;> exact absurd (show false = true from hs) Bool.false_ne_true
theorem op_lt:OpR X (compareOp .Lt) (rI0 fun i j=>.bl (decide (i < j))):=opB0 fun _ _ _ _ _ _ _ q=>lt_int q
theorem op_le:OpR X (compareOp .LtE) (rI0 fun i j=>.bl (decide (i ≤ j))):=opB0 fun _ _ _ _ _ _ _ q=>le_int q
theorem op_gt:OpR X (compareOp .Gt) (rI0 fun i j=>.bl (decide (j < i))):=opB0 fun _ _ _ _ _ _ _ q=>gt_int q
theorem op_isN:OpR X (compareOp .Is) (fun x y H Q=>y = .non ∧ Q (.bl (decide (x = .non))) H):=by
 intro pins s σ H x y v u Q I rx ry h
 obtain ⟨rfl, q⟩:=h
 cases ry
 refine is_none_gen (fin_bl I q ?_)
 cases x <;> first
  | (cases rx; rfl)
  | (obtain ⟨t, rfl⟩:=rx; rfl)
theorem op_notN:OpR X (compareOp .IsNot) (fun x y H Q=>y = .non ∧ Q (.bl (!decide (x = .non))) H):=by
 intro pins s σ H x y v u Q I rx ry h
 obtain ⟨rfl, q⟩:=h
 cases ry
 refine isnot_none_gen (fin_bl I q ?_)
 cases x <;> first
  | (cases rx; rfl)
  | (obtain ⟨t, rfl⟩:=rx; rfl)
theorem nomark (b:Expr) {op:CmpOp} (h:op ≠ .In:=by decide) (h2:op ≠ .NotIn:=by decide):behindInMarks op b = false:=by
 have e1:(op == CmpOp.In) = false:=by cases op <;> first | rfl | exact absurd rfl h
 have e2:(op == CmpOp.NotIn) = false:=by cases op <;> first | rfl | exact absurd rfl h2
 cases b <;> simp [behindInMarks, e1, e2]
theorem pe_cmpR {op:CmpOp} {r:R2} (ho:OpR X (compareOp op) r) (ha:PE X a ta) (hb:PE X b tb) (hm:behindInMarks op b = false):PE X (.Compare a [op] [b] pos) (tOp r ta tb):=by
 intro pins s σ H Q I h
 exact wpAny_Compare1 (binT ha hb I h fun v u s2 x y H2 I2 rx ry q=>ho pins s2 σ H2 x y v u Q I2 rx ry q) hm
def tTest (t:TE):TT:=fun σ H Q=>t σ H fun x H'=>∃ k, x = .bl k ∧ Q k H'
theorem pt_cmpR {op:CmpOp} {r:R2} (ho:OpR X (compareOp op) r) (ha:PE X a ta) (hb:PE X b tb) (hm:behindInMarks op b = false):PT X (.Compare a [op] [b] pos) (tTest (tOp r ta tb)):=by
 intro pins s σ H Q I h
 refine wpAny_isTrue_Compare1 (thn (ha pins s σ H _ I h) fun v s1 ⟨x, H1, I1, r1, q1⟩=>thn (hb pins s1 σ H1 _ I1 q1) fun u s2 ⟨y, H2, I2, r2, q2⟩=>
  thn (ho pins s2 σ H2 x y v u _ I2 r1 r2 q2) fun c s3 ⟨z, H3, I3, r3, k, e, q3⟩=>?_) hm
 subst e
 cases r3
 exact wpAny_truthy_bool ⟨H3, I3, q3⟩
def tChain (r r':R2) (ta tb tc:TE):TE:=fun σ H Q=>ta σ H fun x H1=>tb σ H1 fun y H2=>r x y H2 fun z H3=>∃ k, z = .bl k ∧
 (if k = true then tc σ H3 fun w' H4=>r' y w' H4 Q else Q (.bl false) H3)
theorem pe_chain {op op':CmpOp} {r r':R2} (ho:OpR X (compareOp op) r) (ho':OpR X (compareOp op') r') (ha:PE X a ta) (hb:PE X b tb) (hc:PE X c tc)
  (hm:lastMarks [op, op'] [b, c] = false:=by with_unfolding_all rfl):PE X (.Compare a [op, op'] [b, c] pos) (tChain r r' ta tb tc):=by
 intro pins s σ H Q I h
 refine Compare_chain (thn (ha pins s σ H _ I h) fun v s1 ⟨x, H1, I1, r1, q1⟩=>chain_link (thn (hb pins s1 σ H1 _ I1 q1) fun u s2 ⟨y, H2, I2, r2, q2⟩=>
  thn (ho pins s2 σ H2 x y v u _ I2 r1 r2 q2) fun d s3 ⟨z, H3, I3, r3, k, e, q3⟩=>?_)) hm
 subst e
 cases r3
 refine wpAny_truthy_bool ?_
 cases k with
 | false=>exact ite_ff ⟨.bl false, H3, I3, rfl, q3⟩
 | true=>exact ite_tt (chain_last (thn (hc pins s3 σ H3 _ I3 q3) fun w' s4 ⟨z', H4, I4, r4, q4⟩=>ho' pins s4 σ H4 y z' u w' Q I4 r2 r4 q4))
def TruV (K:PySem.W.Frag) (x:V) (H:Hp) (k:Bool):Prop:=
 match x with
 | .non=>k = false
 | .bl b=>k = b
 | .int i=>k = (i != 0)
 | .str y=>y.length ≤ sizeLine ∧ k = ((y.length:Int) != 0)
 | .byt y=>y.size ≤ sizeLine ∧ k = ((y.size:Int) != 0)
 | .ref p=>(∃ xs, SqL K H p xs ∧ k = !xs.isEmpty) ∨ (∃ xs, SqT K H p xs ∧ k = !xs.isEmpty) ∨ ∃ kvs, H p = some (.dK kvs) ∧ k = !kvs.isEmpty
 | _=>False
theorem isEmpty_kv {κ:Type} {kvs:List (κ × V)} {vs:List (κ × Value)} (r:KV kvs vs):(!vs.isEmpty) = !kvs.isEmpty:=by
 cases r <;> rfl
theorem isEmpty_of {xs:List V} {its:List Value} (r:Vals xs its):(!its.toArray.isEmpty) = !xs.isEmpty:=by
 cases r <;> simp
theorem line63:(sizeLine:Nat) < 2 ^ 63:=by rw [sizeLine_eq]; decide
theorem tru_ok:TruR X (fun x H Q=>∃ k, TruV X.K x H k ∧ Q k H):=by
 intro pins s σ H x v Q I rx h
 obtain ⟨k, e, q⟩:=h
 have hl:=line63
 have hs:sizeLine = 16777216:=sizeLine_eq
 cases x with
 | non=>
   cases rx
   have e':k = false:=e
   subst e'
   exact truthy_none ⟨H, I, q⟩
 | bl b=>
   cases rx
   have e':k = b:=e
   subst e'
   exact wpAny_truthy_bool ⟨H, I, q⟩
 | int i=>
   obtain ⟨t, rfl⟩:=rx
   have e':k = (i != 0):=e
   subst e'
   exact PySem.P.truthy_int ⟨H, I, q⟩
 | str y=>
   obtain ⟨t, rfl⟩:=rx
   obtain ⟨hy, e'⟩:y.length ≤ sizeLine ∧ k = ((y.length:Int) != 0):=e
   subst e'
   exact PySem.P.truthy_str (by omega) ⟨H, I.tok _, q⟩
 | byt y=>
   obtain ⟨t, rfl⟩:=rx
   obtain ⟨hy, e'⟩:y.size ≤ sizeLine ∧ k = ((y.size:Int) != 0):=e
   subst e'
   exact PySem.W.truthy_bytes (by omega) ⟨H, I.tok _, q⟩
 | ref p=>
   cases rx
   have e':(∃ xs, SqL X.K H p xs ∧ k = !xs.isEmpty) ∨ (∃ xs, SqT X.K H p xs ∧ k = !xs.isEmpty) ∨ ∃ kvs, H p = some (.dK kvs) ∧ k = !kvs.isEmpty:=e
   rcases e' with ⟨xs, hx, e'⟩ | ⟨xs, hx, e'⟩ | ⟨kvs, hx, e'⟩
   ·subst e'
    obtain ⟨its, r, pl, hz⟩:=I.list hx
    have hlen:=r.length
    exact wpAny_truthy_list pl.isList (by simp only [List.size_toArray]; omega) ⟨H, I.tok _, by rw [isEmpty_of r]; exact q⟩
   ·subst e'
    obtain ⟨its, r, pl, hz⟩:=I.tuple hx
    have hlen:=r.length
    exact truthy_tuple pl (by simp only [List.size_toArray]; omega) ⟨H, I.tok _, by rw [isEmpty_of r]; exact q⟩
   ·subst e'
    obtain ⟨hz, hS, vs, r, m⟩:kvs.length ≤ sizeLine ∧ (p == sysModules) = false ∧ ∃ vs, KV kvs vs ∧ s.heap.DictOf (mixKind X.prog X.w) p vs:=I.hok p _ hx
    have hlen:kvs.length = vs.length:=Paired.length r
    exact wpAny_truthy_dict hS m (by omega) ⟨H, I.tok _, by rw [isEmpty_kv r]; exact q⟩
 | _=>exact (show False from e).elim
theorem pt_truth (ha:PE X a ta) (he:∀ whole, isTrue a X.env whole = (do let v ← whole; standAt a.pos; holding [v] (truthy v))) :
  PT X a (fun σ H Q=>ta σ H fun x H'=>∃ k, TruV X.K x H' k ∧ Q k H'):=by
 intro pins s σ H Q I h
 exact isTrue_plain (thn (ha pins s σ H _ I h) fun v s1 ⟨x, H1, I1, r1, q1⟩=>tru_ok pins s1 σ H1 x v Q I1 r1 q1) (he _)
theorem op_add_str:OpR X (binaryOp .Add) (fun x y H Q=>∃ i j, x = .str i ∧ y = .str j ∧ i.length + j.length ≤ sizeLine ∧ Q (.str (i ++ j)) H):=by
 intro pins s σ H x y v u Q I rx ry h
 obtain ⟨i, j, rfl, rfl, hz, q⟩:=h
 obtain ⟨t, rfl⟩:=rx
 obtain ⟨t', rfl⟩:=ry
 exact add_str (fun t' tk=>⟨.str (i ++ j), H, I.tok _, ⟨_, rfl⟩, q⟩) hz
theorem vals1 {x:V} {us:List Value} (r:Vals [x] us):∃ u, us = [u] ∧ RelV x u:=by
 cases r with
 | cons r1 r2=>cases r2; exact ⟨_, rfl, r1⟩
theorem vals2 {x y:V} {us:List Value} (r:Vals [x, y] us):∃ u w', us = [u, w'] ∧ RelV x u ∧ RelV y w':=by
 cases r with
 | cons r1 r2=>
   cases r2 with
   | cons r3 r4=>cases r4; exact ⟨_, _, rfl, r1, r3⟩
theorem call_min2 (hc:X.calm = true):CallR X (.builtin "min") (fun xs H Q=>∃ i j, xs = [.int i, .int j] ∧ Q (.int (if j < i then j else i)) H):=by
 intro pins s σ H xs us Q I r h
 obtain ⟨i, j, rfl, q⟩:=h
 obtain ⟨u, w', rfl, ⟨t, rfl⟩, ⟨t', rfl⟩⟩:=vals2 r
 refine min_two_ints (I.ok.hd hc) fun h' tk k=>⟨_, H, I.kept k, ?_, q⟩
 by_cases hj:j < i
 ·rw [if_pos hj, if_pos hj]; exact ⟨_, rfl⟩
 ·rw [if_neg hj, if_neg hj]; exact ⟨_, rfl⟩
end
end L2
namespace L2
open PySem PySem.Spec PyProof.Rows
structure ObjM (h:Heap) (x dx C:Addr) (mA:Str -> Option Value):Prop where
 obj:h.get? x = some (PySem.W.instObj C dx)
 ns:h.Ns1 dx mA
 ne:dx ≠ x
theorem lookIn_ns {h:Heap} {dx:Addr} {mA:Str -> Option Value} (n:h.Ns1 dx mA):∃ od, h.get? dx = some od ∧ ∀ name, PySem.W.lookIn name od = some (mA name):=by
 obtain ⟨o, es, ep, ho, hd, hk, _, hm⟩:=n
 refine ⟨o, ho, fun name=>?_⟩
 have e:=hm name
 unfold nsFind findBy at e
 rw [← Array.find?_toList] at e
 unfold PySem.W.lookIn
 rw [hd]
 dsimp only
 split
 ·rename_i y q
  rw [q] at e
  exact congrArg some e
 ·rename_i q
  rw [q] at e
  have a:es.toList.any (·.refKey) = false:=by
   rw [List.any_eq_false]
   intro y hy
   obtain ⟨z, t, hkey⟩:=hk y (Array.mem_toList_iff.mp hy)
   simp [DictEntry.refKey, hkey]
  have a':¬ es.toList.any (·.refKey) = true:=by rw [a]; exact Bool.false_ne_true
  rw [if_neg a']
  exact congrArg some e
theorem ObjM.look {h:Heap} {x dx C:Addr} {mA:Str -> Option Value} (I:ObjM h x dx C mA):∃ od, PySem.W.InstAt h x (PySem.W.instObj C dx) C (some od) ∧ ∀ name, PySem.W.lookIn name od = some (mA name):=
 let ⟨od, ho, hl⟩:=lookIn_ns I.ns
 ⟨od, ⟨I.obj, rfl, rfl, ho⟩, hl⟩
section
variable {prog:Program} {w:World} {A:Around} {E:Value -> Shared -> Prop} {s:Shared} {K:PySem.W.Frag} {x dx C f:Addr} {mA:Str -> Option Value} {name:Str} {v:Value}
theorem get_map {expr:Bool} {Q:Value -> Shared -> Prop} (X:K.In s.heap) (I:ObjM s.heap x dx C mA) (hg:PySem.W.plainGet K C name = true) (hh:PySem.W.hasDictIn K C = true)
  (ha:PySem.W.findIn K (.ref C) name = some none) (hv:mA name = some v) (hv':PySem.W.handedIn v = true) (h:Q v { s with toks:=s.toks + 1 }) :
  wpAny (model prog w) A (getAttr (.ref x) name expr) Q E s:=by
 obtain ⟨od, J, hl⟩:=I.look
 exact PySem.W.get_value X J (PySem.W.plainGet_of hg).1 (PySem.W.findObj_own hh ha rfl (by rw [hl, hv])) hv' h
theorem get_meth {pl:Sem Bool} {Q:Value × List Value -> Shared -> Prop} (X:K.In s.heap) (I:ObjM s.heap x dx C mA) (hg:PySem.W.plainGet K C name = true)
  (hf:PySem.W.findIn K (.ref C) name = some (some (.ref f))) (ht:PySem.W.isFn K (.ref f) = true) (hv:mA name = none) (h:Q (.ref f, [.ref x]) s) :
  wpAny (model prog w) A (getMethod (.ref x) name pl) Q E s:=by
 obtain ⟨od, J, hl⟩:=I.look
 exact PySem.W.method_fn X J (PySem.W.plainGet_of hg).1 (PySem.W.plainGet_of hg).2 hf (beq_iff_eq.mp ht) (by show (PySem.W.lookIn name od).map (·.isSome) = some false; rw [hl, hv]; rfl) h
theorem set_map {ns:List Str} {Q:Unit -> Shared -> Prop} (X:K.In s.heap) (I:ObjM s.heap x dx C mA)
  (hs:PySem.W.findIn K (.ref C) "__setattr__" = some (some (.builtin "object.__setattr__"))) (hp:PySem.W.plainOver K C = true) (ht:PySem.W.takerIn K C name = some none) (hh:PySem.W.hasDictIn K C = true)
  (hw:PySem.Within mA ns) (hsz:ns.length ≤ sizeLine)
  (h:∀ h', ObjM h' x dx C (fun y=>if y = name then some v else mA y) -> Heap.SameBut dx s.heap h' -> Q () { s with heap:=h', toks:=s.toks + 2 }) :
  wpAny (model prog w) A (setAttr (.ref x) name v) Q E s:=by
 obtain ⟨od, J, hl⟩:=I.look
 refine PySem.W.set_plain X J hs (PySem.W.osa_open (s:={ s with toks:=s.toks + 1 }) (r:=none) X J hp ht fun b=>?_)
 obtain ⟨cd, hc, hd'⟩:=PySem.W.any_some hh
 have hx:s.heap.get? x = some ⟨.ref C, some dx, .plain, #[]⟩:=I.obj
 refine wpAny_bind (wpAny_pure (wpAny_bind (wpAny_bind (wpAny_loadPart hx (wpAny_bind (PySem.W.Looks.here (s:={ s with toks:=s.toks + 1 }) (PySem.W.looks_clsIn X hc) ?_))))))
 rw [hd']
 refine wpAny_pure (a:=some dx) (wpAny_bind (wpAny_pure (wpAny_bind ?_)))
 refine wpAny_nsSet1 (s:={ s with toks:=s.toks + 1 }) I.ns fun h' hn2 hs2=>?_
 obtain ⟨oD, esD, epD, hoD, hdD, hcD⟩:=hn2.count (PySem.Within.cons name v hw)
 refine wpAny_bind (wpAny_lookBehind hoD (by rw [hdD]; exact pastItsLine_dict (Nat.le_trans hcD (by rw [List.length_cons]; omega))) ?_)
 exact wpAny_pure (h _ ⟨(hs2.2 _ (Ne.symm I.ne)).trans I.obj, hn2, I.ne⟩ hs2)
theorem make_map {R:Result -> Shared -> Prop} {vs:List Value} {kw:List (Str × Value)} (X:K.In s.heap) (hm:PySem.W.makesIn K C = true)
  (hi:PySem.W.findIn K (.ref C) "__init__" = some (some (.ref f))) (hf:PySem.W.typeIn K (.ref f) = some (.type "function"))
  (h:codeAny (model prog w) (A.under (.builtin "type.__call__" ⟨.ref C :: vs, kw⟩)) (.call (.ref f) ⟨.ref (s.heap.objs.size + 1) :: vs, kw⟩) (PySem.W.InitBack (s.heap.objs.size + 1) R)
    { s with heap:=(s.heap.push PySem.W.emptyDict).push (PySem.W.instObj C s.heap.objs.size) }) :
  codeAny (model prog w) A (.call (.ref C) ⟨vs, kw⟩) R s:=by
 obtain ⟨hh, g, d, t, os⟩:=s
 exact PySem.W.make_core (PySem.W.makes_of X hm) (PySem.W.looks_findIn X hi) (fun self=>PySem.W.bind_fn X self hf) (.inl rfl) h
end
def putF (f:Str) (v:V):List (Str × V) -> List (Str × V)
 | []=>[(f, v)]
 | (g, x) :: r=>if g = f then (g, v) :: r else (g, x) :: putF f v r
theorem lookup_putF (f g:Str) (v:V):∀ fs:List (Str × V), (putF f v fs).lookup g = if g = f then some v else fs.lookup g
 | []=>by
   show List.lookup g [(f, v)] = _
   by_cases h:g = f
   ·have hb:(g == f) = true:=beq_iff_eq.mpr h
    simp only [List.lookup, hb, if_pos h]
   ·have hb:(g == f) = false:=beq_eq_false_iff_ne.mpr h
    simp only [List.lookup, hb, if_neg h]
 | (k, x) :: r=>by
  have ih:=lookup_putF f g v r
  rw [show putF f v ((k, x) :: r) = (if k = f then (k, v) :: r else (k, x) :: putF f v r) from rfl]
  by_cases hk:k = f
  ·rw [if_pos hk]
   by_cases h:g = k
   ·have hb:(g == k) = true:=beq_iff_eq.mpr h
    simp only [List.lookup, hb, if_pos (h.trans hk)]
   ·have hb:(g == k) = false:=beq_eq_false_iff_ne.mpr h
    simp only [List.lookup, hb, if_neg (fun e:g = f=>h (e.trans hk.symm))]
  ·rw [if_neg hk]
   by_cases h:g = k
   ·have hb:(g == k) = true:=beq_iff_eq.mpr h
    simp only [List.lookup, hb, if_neg (fun e:g = f=>hk (h.symm.trans e))]
   ·have hb:(g == k) = false:=beq_eq_false_iff_ne.mpr h
    simp only [List.lookup, hb]
    exact ih
theorem keys_putF (f:Str) (v:V):∀ fs:List (Str × V), f ∈ (putF f v fs).map (·.1) ∧ ∀ g, g ∈ fs.map (·.1) -> g ∈ (putF f v fs).map (·.1)
 | []=>⟨by simp [putF], fun g h=>by simp at h⟩
 | (k, x) :: r=>by
  obtain ⟨i1, i2⟩:=keys_putF f v r
  rw [show putF f v ((k, x) :: r) = (if k = f then (k, v) :: r else (k, x) :: putF f v r) from rfl]
  by_cases hk:k = f
  ·rw [if_pos hk]
   subst hk
   exact ⟨by simp, fun g h=>by simpa using h⟩
  ·rw [if_neg hk]
   refine ⟨?_, fun g h=>?_⟩
   ·rw [List.map_cons]
    exact List.mem_cons_of_mem _ i1
   ·rw [List.map_cons] at h ⊢
    rcases List.mem_cons.mp h with e | e
    ·exact List.mem_cons.mpr (.inl e)
    ·exact List.mem_cons_of_mem _ (i2 g e)
theorem length_putF (f:Str) (v:V):∀ fs:List (Str × V), (putF f v fs).length ≤ fs.length + 1
 | []=>by simp [putF]
 | (k, x) :: r=>by
  have ih:=length_putF f v r
  rw [show putF f v ((k, x) :: r) = (if k = f then (k, v) :: r else (k, x) :: putF f v r) from rfl]
  by_cases hk:k = f
  ·rw [if_pos hk, List.length_cons, List.length_cons]; omega
  ·rw [if_neg hk, List.length_cons, List.length_cons]; omega
theorem RelO.some_of {v:V} {o:Option Value} (r:RelO (some v) o):∃ u, o = some u ∧ RelV v u:=by
 cases o with
 | none=>exact (show False from r).elim
 | some u=>exact ⟨u, rfl, r⟩
theorem RelO.none_of {o:Option Value} (r:RelO none o):o = none:=by
 cases o with
 | none=>rfl
 | some u=>exact (show False from r).elim
theorem handed_of {v:V} {u:Value} (r:RelV v u):PySem.W.handedIn u = true:=by
 cases v with
 | non=>cases (show u = Value.none from r); rfl
 | bl b=>cases (show u = Value.bool b from r); rfl
 | int i=>obtain ⟨t, e⟩:=(show ∃ t, u = Value.int i t from r); cases e; rfl
 | str x=>obtain ⟨t, e⟩:=(show ∃ t, u = Value.str x t from r); cases e; rfl
 | byt b=>obtain ⟨t, e⟩:=(show ∃ t, u = Value.bytes b t from r); cases e; rfl
 | flt b=>obtain ⟨t, e⟩:=(show ∃ t, u = Value.float b t from r); cases e; rfl
 | ref a=>cases (show u = Value.ref a from r); rfl
 | ty n=>cases (show u = Value.type n from r); rfl
section
variable {P:Program} {w:World} {H H':Hp} {h h':Heap} {a C dx:Addr} {fs fs':List (Str × V)}
theorem ins_get (hok:HOk P w H h) (e:H a = some (.ins C dx fs)):∃ mA, ObjM h a dx C mA ∧ (∀ f, RelO (fs.lookup f) (mA f)) ∧ PySem.Within mA (fs.map (·.1)) ∧ fs.length ≤ 1000 ∧ H dx = some (.own a):=by
 obtain ⟨d, z, ne, ob, mA, n, r, q⟩:=(show ObjOk P w H h a (.ins C dx fs) from hok a _ e)
 exact ⟨mA, ⟨ob, n, ne⟩, r, q, z, d⟩
end
structure Cls (K:PySem.W.Frag) (C:Addr):Prop where
 pg:PySem.W.plainGet K C Str.empty = true
 hd:PySem.W.hasDictIn K C = true
 po:PySem.W.plainOver K C = true
 sa:PySem.W.findIn K (.ref C) "__setattr__" = some (some (.builtin "object.__setattr__"))
theorem Cls.get {K:PySem.W.Frag} {C:Addr} (c:Cls K C) (f:Str):PySem.W.plainGet K C f = true:=c.pg
def NoAttr (K:PySem.W.Frag) (C:Addr) (f:Str):Prop:=PySem.W.findIn K (.ref C) f = some none
theorem NoAttr.taker {K:PySem.W.Frag} {C:Addr} {f:Str} (n:NoAttr K C f):PySem.W.takerIn K C f = some none:=by
 unfold PySem.W.takerIn
 rw [show PySem.W.findIn K (.ref C) f = some none from n]
 rfl
structure Meth (K:PySem.W.Frag) (C:Addr) (m:Str) (f:Addr):Prop where
 at_:PySem.W.findIn K (.ref C) m = some (some (.ref f))
 fn:PySem.W.isFn K (.ref f) = true
 kp:PySem.W.keepIn K (.ref f) = true
section
variable {X:Cx} {pins:List (Addr × Obj)} {σ:St} {H:Hp} {s:Shared} {a C dx:Addr} {fs:List (Str × V)} {f:Str} {v:V} {A:Around} {E:Value -> Shared -> Prop}
theorem getattr_ok {b:Bool} {Q:Value -> Shared -> Prop} (I:Inv X pins σ H s) (e:H a = some (.ins C dx fs)) (c:Cls X.K C) (n:NoAttr X.K C f) (l:fs.lookup f = some v)
  (h:∀ u s', Inv X pins σ H s' -> RelV v u -> Q u s'):wpAny (model X.prog X.w) A (getAttr (.ref a) f b) Q E s:=by
 obtain ⟨mA, O, r, _, _, _⟩:=ins_get I.hok e
 obtain ⟨u, hu, ru⟩:=RelO.some_of (v:=v) (o:=mA f) (by rw [← l]; exact r f)
 exact get_map I.kIn O (c.get f) c.hd n hu (handed_of ru) (h u _ (I.tok _) ru)
theorem getmeth_ok {m:Str} {g:Addr} {pl:Sem Bool} {Q:Value × List Value -> Shared -> Prop} (I:Inv X pins σ H s) (e:H a = some (.ins C dx fs)) (c:Cls X.K C) (k:Meth X.K C m g) (l:fs.lookup m = none)
  (h:Q (.ref g, [.ref a]) s):wpAny (model X.prog X.w) A (getMethod (.ref a) m pl) Q E s:=by
 obtain ⟨mA, O, r, _, _, _⟩:=ins_get I.hok e
 have hn:mA m = none:=RelO.none_of (by rw [← l]; exact r m)
 exact get_meth I.kIn O (c.get m) k.at_ k.fn hn h
theorem setattr_ok {y:V} {u:Value} {Q:Unit -> Shared -> Prop} (I:Inv X pins σ H s) (e:H a = some (.ins C dx fs)) (c:Cls X.K C) (n:NoAttr X.K C f) (hl:fs.length < 1000) (ry:RelV y u)
  (h:∀ s', Inv X pins σ (upd H a (.ins C dx (putF f y fs))) s' -> Q () s'):wpAny (model X.prog X.w) A (setAttr (.ref a) f u) Q E s:=by
 obtain ⟨mA, O, r, wi, _, ho⟩:=ins_get I.hok e
 have hz:(fs.map (·.1)).length ≤ sizeLine:=by rw [List.length_map, sizeLine_eq]; omega
 refine set_map I.kIn O c.sa c.po n.taker c.hd wi hz fun h' O' sb=>h _ ?_
 have hd:∃ o, h'.get? dx = some o:=let ⟨o, _, _, e', _⟩:=O'.ns; ⟨o, e'⟩
 refine I.write (x:=a) (e:=dx) (by rw [e]; exact True.intro) (.inr ho) (fun b q hb z=>(sb.2 b hb).trans z) hd ?_
 refine ⟨by rw [upd_ne O.ne]; exact ho, ?_, O.ne, O'.obj, _, O'.ns, fun g=>?_, fun g hg=>?_⟩
 ·have:=length_putF f y fs; omega
 ·show RelO ((putF f y fs).lookup g) (if g = f then some u else mA g)
  rw [lookup_putF]
  by_cases q:g = f
  ·rw [if_pos q, if_pos q]; exact ry
  ·rw [if_neg q, if_neg q]; exact r g
 ·by_cases q:g = f
  ·rw [q]; exact (keys_putF f y fs).1
  ·refine (keys_putF f y fs).2 g (wi g fun z=>hg ?_)
   show (if g = f then some u else mA g) = none
   rw [if_neg q]; exact z
theorem Inv.made (I:Inv X pins σ H s):Inv X pins σ (upd (upd H s.heap.objs.size (.own (s.heap.objs.size + 1))) (s.heap.objs.size + 1) (.ins C s.heap.objs.size []))
  { s with heap:=(s.heap.push PySem.W.emptyDict).push (PySem.W.instObj C s.heap.objs.size) }:=by
 have e1:(s.heap.push PySem.W.emptyDict).get? s.heap.objs.size = some PySem.W.emptyDict:=Heap.get?_push_size s.heap rfl
 have e2:((s.heap.push PySem.W.emptyDict).push (PySem.W.instObj C s.heap.objs.size)).get? (s.heap.objs.size + 1) = some (PySem.W.instObj C s.heap.objs.size):=by
  have:=Heap.get?_push_size (s.heap.push PySem.W.emptyDict) (o:=PySem.W.instObj C s.heap.objs.size) rfl
  rwa [Heap.size_push] at this
 have e3:(s.heap.push PySem.W.emptyDict).Ns s.heap.objs.size (fun _=>none):=⟨PySem.W.emptyDict, #[], _, e1, rfl, (fun e he=>absurd he (by simp)), fun _=>rfl⟩
 have I1:=I.laid (a:=s.heap.objs.size) (o:=.own (s.heap.objs.size + 1)) (h':=s.heap.push PySem.W.emptyDict) (t':=s.toks) (fun b u q=>Heap.get?_push_of_some _ q) (Nat.le_refl _) ⟨_, e1⟩
 refine I1.laid (a:=s.heap.objs.size + 1) (o:=.ins C s.heap.objs.size []) (t':=s.toks) (fun b u q=>Heap.get?_push_of_some _ q) (Nat.le_of_eq (Heap.size_push _ _)) ?_
 have ne:s.heap.objs.size ≠ s.heap.objs.size + 1:=Nat.ne_of_lt (Nat.lt_succ_self _)
 refine ⟨by rw [upd_ne ne, upd_same], Nat.zero_le _, ne, e2, fun _=>none, (Heap.Ns1.of_empty e3).at fun o q=>Heap.get?_push_of_some _ q, fun _=>True.intro, fun y hy=>absurd rfl hy⟩
theorem attr_of {prog:Program} {w:World} {env:Env} {e:Expr} {f:Str} {pos:Pos} {s:Shared} {Q:Value -> Shared -> Prop} (hb:attributeBase e f env (eval e env) = eval e env)
  (h:wpAny (model prog w) A (eval e env) (fun o s₁=>wpAny (model prog w) A (getAttr o f true) Q E s₁) E s):wpAny (model prog w) A (eval (.Attribute e f pos) env) Q E s:=
 Attribute_any_ h (by rw [arm_eval_Attribute, hb])
end
def tFld (K:PySem.W.Frag) (ta:TE) (f:Str):TE:=fun σ H Q=>ta σ H fun x H1=>∃ a C dx fs v, x = .ref a ∧ H1 a = some (.ins C dx fs) ∧ Cls K C ∧ NoAttr K C f ∧ fs.lookup f = some v ∧ Q v H1
def sFld (K:PySem.W.Frag) (ta tv:TE) (f:Str):TS:=fun D σ H=>tv σ H fun y H1=>ta σ H1 fun x H2=>∃ a C dx fs, x = .ref a ∧ H2 a = some (.ins C dx fs) ∧ Cls K C ∧ NoAttr K C f ∧ fs.length < 1000 ∧
 D.nx σ (upd H2 a (.ins C dx (putF f y fs)))
def InOp (X:Cx) (op:Operator) (rd:V -> V -> Hp -> VK -> Prop):Prop:=
 ∀ (pins:List (Addr × Obj)) (s:Shared) (σ:St) (H:Hp) (x y:V) (u v:Value) (Q:VK), Inv X pins σ H s -> RelV x u -> RelV y v -> rd x y H Q -> wpAny (model X.prog X.w) X.A (inplaceOp op u v) (EP X pins σ Q) X.xe s
def sFldAug (K:PySem.W.Frag) (ta tv:TE) (rd:V -> V -> Hp -> VK -> Prop) (f:Str):TS:=fun D σ H=>ta σ H fun x H1=>∃ a C dx fs v, x = .ref a ∧ H1 a = some (.ins C dx fs) ∧ Cls K C ∧ NoAttr K C f ∧ fs.lookup f = some v ∧
 tv σ H1 fun y H2=>rd v y H2 fun z H3=>∃ dx' fs', H3 a = some (.ins C dx' fs') ∧ fs'.length < 1000 ∧ D.nx σ (upd H3 a (.ins C dx' (putF f z fs')))
section
variable {X:Cx} {o e value:Expr} {f:Str} {pos pos' tpos:Pos} {ta tv:TE}
theorem pe_fld (he:PE X e ta) (hb:attributeBase e f X.env (eval e X.env) = eval e X.env):PE X (.Attribute e f pos) (tFld X.K ta f):=by
 intro pins s σ H Q I h
 refine attr_of hb (thn (he pins s σ H _ I h) fun u s1 ⟨x, H1, I1, rx, a, C, dx, fs, v, ex, ea, c, n, l, q⟩=>?_)
 subst ex
 obtain rfl:u = Value.ref a:=rx
 exact getattr_ok I1 ea c n l fun u' s2 I2 ru=>⟨v, H1, I2, ru, q⟩
theorem ps_fld (ha:PE X o ta) (hv:PE X value tv) (hs:swapsWith value (some (.Attribute o f pos')) pos.line X.env = pure false):PS X (.Assign [.Attribute o f pos'] value pos) (sFld X.K ta tv f):=by
 intro pins s σ H D I h
 refine plainObj_wpAny_Assign_Attribute (thn (hv pins s σ H _ I h) fun u s1 ⟨y, H1, I1, ry, q⟩=>thn (ha pins s1 σ H1 _ I1 q) fun ov s2 ⟨x, H2, I2, rx, a, C, dx, fs, ex, ea, c, n, l, q2⟩=>?_) hs
 subst ex
 obtain rfl:ov = Value.ref a:=rx
 exact setattr_ok I2 ea c n l ry fun s3 I3=>⟨σ, _, I3, q2⟩
theorem ps_fldaug {op:Operator} {rd:V -> V -> Hp -> VK -> Prop} (ha:PE X o ta) (hv:PE X value tv) (hop:InOp X op rd):PS X (.AugAssign (.Attribute o f tpos) op value pos) (sFldAug X.K ta tv rd f):=by
 intro pins s σ H D I h
 refine wpAny_AugAssign_AttributeAny (thn (ha pins s σ H _ I h) fun ov s1 ⟨x, H1, I1, rx, a, C, dx, fs, v, ex, ea, c, n, l, q⟩=>?_)
 subst ex
 obtain rfl:ov = Value.ref a:=rx
 refine getattr_ok I1 ea c n l fun u s2 I2 ru=>thn (hv pins s2 σ H1 _ I2 q) fun w3 s3 ⟨y, H2, I3, ry, q3⟩=>thn (hop pins s3 σ H2 v y u w3 _ I3 ru ry q3) fun w4 s4 ⟨z, H3, I4, rz, dx', fs', ea', l', q4⟩=>?_
 exact setattr_ok I4 ea' c n l' rz fun s5 I5=>⟨σ, _, I5, q4⟩
def rAdd:V -> V -> Hp -> VK -> Prop:=fun x y H Q=>∃ i j, x = .int i ∧ y = .int j ∧ Q (.int (i + j)) H
theorem in_add:InOp X .Add rAdd:=by
 rintro pins s σ H x y u v Q I rx ry ⟨i, j, rfl, rfl, q⟩
 obtain ⟨t, rfl⟩:=(show ∃ t, u = Value.int i t from rx)
 obtain ⟨t', rfl⟩:=(show ∃ t', v = Value.int j t' from ry)
 exact PyProof.Rows.iadd_int ⟨.int (i + j), H, I.tok _, ⟨_, rfl⟩, q⟩
end
section
variable {X:Cx} {pins:List (Addr × Obj)} {σ:St} {H:Hp} {s:Shared} {A:Around} {E:Value -> Shared -> Prop} {Q:Value -> Shared -> Prop} {c:Value} {b:Bool}
inductive TyOf (K:PySem.W.Frag) (H:Hp):V -> Value -> Prop where
 | non:TyOf K H .non (.type "NoneType")
 | bl (x:Bool):TyOf K H (.bl x) (.type "bool")
 | int (i:Int):TyOf K H (.int i) (.type "int")
 | str (x:Str):TyOf K H (.str x) (.type "str")
 | flt (x:UInt64):TyOf K H (.flt x) (.type "float")
 | lst {a:Addr} {xs:List V} (e:H a = some (.lst xs)):TyOf K H (.ref a) (.type "list")
 | frz {a:Addr} {o:Obj} {xs:List V} (e:H a = some (.frz o (.lst xs))):TyOf K H (.ref a) (.type "list")
 | tup {a:Addr} {xs:List V} (e:H a = some (.tup xs)):TyOf K H (.ref a) (.type "tuple")
 | dK {a:Addr} {kvs:List (Key × V)} (e:H a = some (.dK kvs)):TyOf K H (.ref a) (.type "dict")
 | dT {a:Addr} {kvs:List (List Key × V)} (e:H a = some (.dT kvs)):TyOf K H (.ref a) (.type "dict")
 | ins {a C dx:Addr} {fs:List (Str × V)} (e:H a = some (.ins C dx fs)) (cl:Cls K C) (ha:PySem.W.findIn K (.ref C) "__class__" = some (some (.builtin "object.__class__")))
    (hn:PySem.W.specialIn K (.builtin "object.__class__") "__get__" = some (some (.builtin "getset_descriptor.__get__"))) (htk:PySem.W.takesIn K (.builtin "object.__class__") = some true)
    (hm:PySem.W.mroIn K C (.type "object") = some true):TyOf K H (.ref a) (.ref C)
theorem isinst_ok {x:V} {u t:Value} (I:Inv X pins σ H s) (rx:RelV x u) (ty:TyOf X.K H x t) (e:PySem.W.kitOne X.K t c = some b) (h:∀ tk, Q (.bool b) { s with toks:=tk }) :
  wpAny (model X.prog X.w) A (call (.builtin "isinstance") [u, c]) Q E s:=by
 cases ty with
 | non=>cases (show u = Value.none from rx); exact PySem.W.kia_one PySem.W.kitx_none I.kIn True.intro e (fun z=>nomatch z) h
 | bl y=>cases (show u = Value.bool y from rx); exact PySem.W.kia_one PySem.W.kitx_bool I.kIn True.intro e (fun z=>nomatch z) h
 | int i=>obtain ⟨t, q⟩:=(show ∃ t, u = Value.int i t from rx); cases q; exact PySem.W.kia_one PySem.W.kitx_int I.kIn True.intro e (fun z=>nomatch z) h
 | str y=>obtain ⟨t, q⟩:=(show ∃ t, u = Value.str y t from rx); cases q; exact PySem.W.kia_one PySem.W.kitx_str I.kIn True.intro e (fun z=>nomatch z) h
 | flt y=>obtain ⟨t, q⟩:=(show ∃ t, u = Value.float y t from rx); cases q; exact PySem.W.kia_one PySem.W.kitx_float I.kIn True.intro e (fun z=>nomatch z) h
 | @lst a xs ea=>
   cases (show u = Value.ref a from rx)
   obtain ⟨_, _, n, _, h1⟩:=(show ObjOk X.prog X.w H s.heap a (.lst xs) from I.hok a _ ea)
   exact PySem.W.kia_one PySem.W.kitx_list I.kIn ⟨_, h1, rfl⟩ e (fun z=>nomatch z) h
 | @frz a ob xs ea=>
   cases (show u = Value.ref a from rx)
   obtain ⟨_, _, _, n, _, h1⟩:=(show ObjOk X.prog X.w H s.heap a (.frz ob (.lst xs)) from I.hok a _ ea)
   exact PySem.W.kia_one PySem.W.kitx_list I.kIn ⟨_, h1, rfl⟩ e (fun z=>nomatch z) h
 | @tup a xs ea=>
   cases (show u = Value.ref a from rx)
   obtain ⟨_, _, _, p⟩:=(show ObjOk X.prog X.w H s.heap a (.tup xs) from I.hok a _ ea)
   obtain ⟨o, h1, h2, _⟩:=p
   exact PySem.W.kia_one PySem.W.kitx_tuple I.kIn ⟨o, h1, h2⟩ e (fun z=>nomatch z) h
 | @dK a kvs ea=>
   cases (show u = Value.ref a from rx)
   obtain ⟨_, _, vs, _, p⟩:=(show ObjOk X.prog X.w H s.heap a (.dK kvs) from I.hok a _ ea)
   obtain ⟨o, es, ep, h1, h2, _⟩:=p
   exact PySem.W.kia_one PySem.W.kitx_dict I.kIn ⟨o, h1, h2.1⟩ e (fun z=>nomatch z) h
 | @dT a kvs ea=>
   cases (show u = Value.ref a from rx)
   obtain ⟨_, _, xs, _, o, es, ep, h1, h2, _⟩:=(show ObjOk X.prog X.w H s.heap a (.dT kvs) from I.hok a _ ea)
   exact PySem.W.kia_one PySem.W.kitx_dict I.kIn ⟨o, h1, h2.1⟩ e (fun z=>nomatch z) h
 | @ins a C dx fs ea cl ha hn htk hm=>
   cases (show u = Value.ref a from rx)
   obtain ⟨mA, O, _⟩:=ins_get I.hok ea
   obtain ⟨od, J, _⟩:=O.look
   exact PySem.W.kia_one (PySem.W.kitx_own (cl.get _) cl.hd ha hn htk hm) I.kIn J e (fun z=>nomatch z) h
end
end L2
namespace L2
open PySem PySem.Spec PyProof.Rows
structure Room (k:Nat) (A:Around):Prop where
 hd:A.handled = none
 dp:A.depth + 3 * k + 5 < recursionLimit
 un:A.units + 16 * k + 200 < cLine
theorem Room.mono {j k:Nat} {A:Around} (r:Room k A) (h:j ≤ k):Room j A:=⟨r.hd, by have:=r.dp; omega, by have:=r.un; omega⟩
theorem Room.deeper {k:Nat} {A:Around} (r:Room (k + 1) A) (env:Env):Room k (A.deeper env):=
 ⟨r.hd, by have:=r.dp; show A.depth + 1 + 3 * k + 5 < _; omega, by have:=r.un; show A.units + 3 + 16 * k + 200 < _; omega⟩
theorem Room.in1 {k:Nat} {A:Around} (r:Room (k + 1) A):Room k A.in1:=
 ⟨r.hd, by have:=r.dp; show A.depth + 3 * k + 5 < _; omega, by have:=r.un; show A.units + 1 + 16 * k + 200 < _; omega⟩
theorem make_depth {A:Around} {C:Addr} {us:List Value} {kw:List (Str × Value)}:(A.under (.builtin "type.__call__" ⟨.ref C :: us, kw⟩)).depth = A.depth + 1:=by
 first | rfl | simp [Around.under, Code.weight, Code.isCreation, Code.isGuard, Code.isCaller, Code.frames, Code.isFrame, guardIds]
theorem make_units {A:Around} {C:Addr} {us:List Value} {kw:List (Str × Value)}:(A.under (.builtin "type.__call__" ⟨.ref C :: us, kw⟩)).units = A.units + 1:=by
 first | rfl | simp [Around.under, Code.cUnits, Code.frames, Code.isFrame]
theorem Room.make {k:Nat} {A:Around} (r:Room (k + 1) A) (C:Addr) (us:List Value) (kw:List (Str × Value)):Room k (A.under (.builtin "type.__call__" ⟨.ref C :: us, kw⟩)):=
 ⟨r.hd, by have:=r.dp; rw [make_depth]; omega, by have:=r.un; rw [make_units]; omega⟩
theorem Room.depth {k:Nat} {A:Around} (r:Room k A):A.depth < recursionLimit:=by have:=r.dp; omega
theorem Room.units {k:Nat} {A:Around} (r:Room k A):A.units + 64 < cLine:=by have:=r.un; omega
def tNil:TA:=fun _ H Q=>Q [] H
def tCons (ta:TE) (tr:TA):TA:=fun σ H Q=>ta σ H fun x H1=>tr σ H1 fun xs H2=>Q (x :: xs) H2
section
variable {X:Cx} {e:Expr} {es:List Expr} {te:TE} {t:TA} {pos:Pos}
theorem pa_nil:PA X [] tNil:=fun _ _ _ _ H Q I h=>Calls.spliced_nil ⟨[], H, I, .nil, h⟩
theorem pa_cons (ha:PE X e te) (hr:PA X es t) (hs:starEach (e :: es) X.env = (false, eval e X.env) :: starEach es X.env:=by rfl):PA X (e :: es) (tCons te t):=by
 intro pos pins s σ H Q I h
 rw [hs]
 show wpAny _ _ (spliced ((false, eval e X.env) :: backTo pos (starEach es X.env))) _ _ s
 refine Calls.spliced_cons (thn (ha pins s σ H _ I h) fun u s1 ⟨x, H1, I1, r1, q1⟩=>?_)
 exact thn (hr pos pins s1 σ H1 _ I1 q1) fun us s2 ⟨xs, H2, I2, r2, q2⟩=>⟨x :: xs, H2, I2, .cons r1 r2, q2⟩
def tTup (t:TA):TE:=fun σ H Q=>t σ H fun xs H1=>xs.length ≤ sizeLine ∧ ∀ p, H1 p = none -> Q (.ref p) (upd H1 p (.tup xs))
def tLst (t:TA):TE:=fun σ H Q=>t σ H fun xs H1=>xs.length ≤ sizeLine ∧ ∀ p, H1 p = none -> Q (.ref p) (upd H1 p (.lst xs))
theorem pe_tup {x1} (h:PA X es t):PE X (.Tuple es x1 pos) (tTup t):=by
 intro pins s σ H Q I hq
 refine wpAny_Tuple_spliced (thn (h pos pins s σ H _ I hq) fun us s1 ⟨xs, H1, I1, r, z, q⟩=>⟨by rw [← r.length]; exact z, ?_⟩)
 have hf:H1 s1.heap.objs.size = none:=I1.hok.fresh (Nat.le_refl _)
 refine ⟨.ref s1.heap.objs.size, upd H1 s1.heap.objs.size (.tup xs), I1.laid (t':=s1.toks) (fun b u e=>Heap.get?_push_of_some _ e) (Nat.le_refl _) ?_, rfl, q _ hf⟩
 exact ⟨z, us, r, ⟨_, Heap.get?_push_size _ rfl, rfl, _, rfl⟩⟩
theorem pe_lst (h:PA X es t):PE X (.List es pos) (tLst t):=by
 intro pins s σ H Q I hq
 refine wpAny_List_spliced (thn (h pos pins s σ H _ I hq) fun us s1 ⟨xs, H1, I1, r, z, q⟩=>⟨by rw [← r.length]; exact z, ?_⟩)
 have hf:H1 s1.heap.objs.size = none:=I1.hok.fresh (Nat.le_refl _)
 refine ⟨.ref s1.heap.objs.size, upd H1 s1.heap.objs.size (.lst xs), I1.laid (t':=s1.toks) (fun b u e=>Heap.get?_push_of_some _ e) (Nat.le_refl _) ?_, rfl, q _ hf⟩
 exact ⟨z, us, 0, r, Heap.get?_push_size _ rfl⟩
end
abbrev Sp:=List V -> Hp -> VK -> XK -> Prop
abbrev CXT:=List Env -> Hp -> Shared -> XK -> Value -> Shared -> Prop
structure Env0 (P:Program) (w:World) (K:PySem.W.Frag) (mg:Str -> Option Value) (base:Heap) (A:Around) (outer:List Env) (s:Shared) (H:Hp):Prop where
 frames:A.frames = some outer
 mod:Mod K mg base
 bs:∀ b o, base.get? b = some o -> s.heap.get? b = some o ∧ H b = none
 bsz:base.objs.size ≤ s.heap.objs.size
 funs:s.heap.FunFrames base outer
 frf:∀ b ∈ frs outer, H b = none
 hok:HOk P w H s.heap
 bare:AllBare s.gens
def CE (outer:List Env) (P:Program) (w:World) (H:Hp) (s:Shared) (Q:VK) (u:Value) (s':Shared):Prop:=
 ∃ v H', s'.os = s.os ∧ AllBare s'.gens ∧ Un (frs outer) [] H H' s.heap s'.heap ∧ HOk P w H' s'.heap ∧ RelV v u ∧ Q v H'
def CR (CX:CXT) (outer:List Env) (P:Program) (w:World) (H:Hp) (s:Shared) (Q:VK) (E:XK) (r:Result) (s':Shared):Prop:=
 match r with
 | .ok (.ret u)=>CE outer P w H s Q u s'
 | .ok _=>False
 | .error e=>CX outer H s E e s'
structure FnOk (P:Program) (w:World) (K:PySem.W.Frag) (mg:Str -> Option Value) (base:Heap) (CX:CXT) (k:Nat) (f:Addr) (fd:FuncData) (ps:List Str) (sp:Sp):Prop where
 len:∀ vs H Q E, sp vs H Q E -> vs.length = ps.length
 run:∀ (A:Around) (outer:List Env) (s:Shared) (H:Hp) (args:Args) (us:List Value) (vs:List V) (Q:VK) (E:XK), Room k A -> Env0 P w K mg base A outer s H -> BindsTo s fd args (ps.zip us) -> Vals vs us -> sp vs H Q E ->
  codeAny (model P w) A (.call (.ref f) args) (CR CX outer P w H s Q E) s
theorem FnOk.mono {P:Program} {w:World} {K:PySem.W.Frag} {mg:Str -> Option Value} {base:Heap} {CX:CXT} {j k:Nat} {f:Addr} {fd:FuncData} {ps:List Str} {sp:Sp} (F:FnOk P w K mg base CX j f fd ps sp) (h:j ≤ k) :
  FnOk P w K mg base CX k f fd ps sp:=⟨F.len, fun A outer s H args us vs Q E hr=>F.run A outer s H args us vs Q E (hr.mono h)⟩
theorem FnOk.imp {P:Program} {w:World} {K:PySem.W.Frag} {mg:Str -> Option Value} {base:Heap} {CX:CXT} {k:Nat} {f:Addr} {fd:FuncData} {ps:List Str} {sp sp':Sp} (F:FnOk P w K mg base CX k f fd ps sp)
  (h:∀ vs H Q E, sp' vs H Q E -> sp vs H Q E):FnOk P w K mg base CX k f fd ps sp':=
 ⟨fun vs H Q E q=>F.len vs H Q E (h _ _ _ _ q), fun A outer s H args us vs Q E hr he hb hv hs=>F.run A outer s H args us vs Q E hr he hb hv (h _ _ _ _ hs)⟩
theorem Env0.make {P:Program} {w:World} {K:PySem.W.Frag} {mg:Str -> Option Value} {base:Heap} {A:Around} {outer:List Env} {s:Shared} {H:Hp} (e:Env0 P w K mg base A outer s H) (C:Addr) (us:List Value) (kw:List (Str × Value)) :
  Env0 P w K mg base (A.under (.builtin "type.__call__" ⟨.ref C :: us, kw⟩)) outer s H:=⟨by first | exact e.frames | (simpa [Around.under, Code.envs, Code.isFrame, pushEnvs] using e.frames), e.mod, e.bs, e.bsz, e.funs, e.frf, e.hok, e.bare⟩
section
variable {X:Cx} {pins:List (Addr × Obj)} {σ:St} {H:Hp} {s s':Shared}
theorem Inv.env0 (I:Inv X pins σ H s):Env0 X.prog X.w X.K X.mg X.base X.A X.stack s H:=
 ⟨I.ok.frames, I.ok.mod, I.bs, Nat.le_trans I.ok.bsz I.sz, I.stack, I.stkFree, I.hok, I.bare⟩
theorem Inv.after {Q:VK} {u:Value} (I:Inv X pins σ H s) (h:CE X.stack X.prog X.w H s Q u s'):EP X pins σ Q u s':=by
 obtain ⟨v, H', os, bare, un, hok, r, q⟩:=h
 obtain ⟨hh, g, d, t, os'⟩:=s'
 obtain rfl:os' = s.os:=os
 exact ⟨v, H', I.call (h':=hh) (g':=g) (d':=d) (t':=t) (ch:=[]) un hok bare (fun b z=>absurd z (by simp)), r, q⟩
end
def tCall (sp:Sp) (dvs:List V) (E:XK) (t:TA):TE:=fun σ H Q=>t σ H fun vs H1=>sp (vs ++ dvs) H1 Q E
def tMeth (C:Addr) (m:Str) (sp:Sp) (dvs:List V) (E:XK) (ta:TE) (t:TA):TE:=fun σ H Q=>ta σ H fun x H1=>∃ a dx fs, x = .ref a ∧ H1 a = some (.ins C dx fs) ∧ fs.lookup m = none ∧
 t σ H1 fun vs H2=>sp (x :: (vs ++ dvs)) H2 Q E
def tMake (C:Addr) (sp:Sp) (dvs:List V) (E:XK) (t:TA):TE:=fun σ H Q=>t σ H fun vs H1=>∀ x dx, H1 x = none -> H1 dx = none -> dx ≠ x ->
 sp (.ref x :: (vs ++ dvs)) (upd (upd H1 dx (.own x)) x (.ins C dx [])) (fun v H2=>v = .non ∧ Q (.ref x) H2) E
def Binds (K:PySem.W.Frag) (fd:FuncData) (ps:List Str) (ds:List Value):Prop:=
 ∀ (s:Shared) (us:List Value), K.In s.heap -> (us ++ ds).length = ps.length -> BindsTo s fd ⟨us, []⟩ (ps.zip (us ++ ds))
theorem Binds.all {K:PySem.W.Frag} {fd:FuncData} {ps:List Str} (h:∀ us:List Value, us.length = ps.length -> bindArgs fd ⟨us, []⟩ = pure (ps.zip us)):Binds K fd ps []:=fun s us _ hl=>by
 rw [List.append_nil] at hl ⊢
 exact .of_eq (h us hl)
def Passes (CX:CXT) (X:Cx) (E:XK):Prop:=∀ (pins:List (Addr × Obj)) (σ:St) (H:Hp) (s:Shared) (e:Value) (s':Shared), Inv X pins σ H s -> CX X.stack H s E e s' -> X.xe e s'
section
variable {X:Cx} {CX:CXT} {k:Nat} {f C:Addr} {fd:FuncData} {ps:List Str} {sp:Sp} {dvs:List V} {ds:List Value} {E:XK} {x m:Str} {p pos apos:Pos} {e o:Expr} {es:List Expr} {ta:TE} {t:TA}
theorem run_fn {pins:List (Addr × Obj)} {σ:St} {H:Hp} {s:Shared} {Q:VK} {us:List Value} {vs:List V} (F:FnOk X.prog X.w X.K X.mg X.base CX k f fd ps sp) (hr:Room k X.A) (hb:Binds X.K fd ps ds) (hd:Vals dvs ds) (hx:Passes CX X E)
  (I:Inv X pins σ H s) (r:Vals vs us) (h:sp (vs ++ dvs) H Q E):wpAny (model X.prog X.w) X.A (call (.ref f) us) (EP X pins σ Q) X.xe s:=by
 have r2:Vals (vs ++ dvs) (us ++ ds):=r.append hd
 have hl:(us ++ ds).length = ps.length:=by rw [← r2.length]; exact F.len _ _ _ _ h
 refine wpAny_call (codeAny_mono (F.run X.A X.stack s H ⟨us, []⟩ (us ++ ds) (vs ++ dvs) Q E hr I.env0 (hb s us I.kIn hl) r2 h) fun r s' hq=>?_)
 cases r with
 | error e=>exact hx pins σ H s e s' I hq
 | ok fl=>
   cases fl with
   | ret u=>exact I.after hq
   | next=>exact False.elim hq
   | brk=>exact False.elim hq
   | cont=>exact False.elim hq
theorem pe_call (F:FnOk X.prog X.w X.K X.mg X.base CX k f fd ps sp) (hr:Room k X.A) (hg:Gl X x) (hm:X.mg x = some (.ref f)) (hk:PySem.W.keepIn X.K (.ref f) = true) (hb:Binds X.K fd ps ds) (hd:Vals dvs ds) (hx:Passes CX X E)
  (ha:PA X (e :: es) t) (hdb:(x == ("__debug__":Str)) = false:=by decide) (he:starEach (e :: es) X.env = (false, eval e X.env) :: starEach es X.env:=by rfl) (hpl:(backTo pos (starEach es X.env)).any (·.1) = false:=by rfl) :
  PE X (.Call (.Name x p) (e :: es) [] pos) (tCall sp dvs E t):=by
 intro pins s σ H Q I h
 refine wpAny_Call_Name_kw (ld_glob I hg hm ?_ hdb)
 refine PySem.W.callWith_K (h₀:=X.base) I.ok.mod.kin hk (thn (ha pos pins s σ H _ I h) fun us s1 ⟨vs, H1, I1, r, q⟩=>⟨I1.kIn, ?_⟩) he hpl
 exact run_fn F hr hb hd hx I1 r q
theorem pe_meth {pl:Sem Bool} (he:PE X o ta) (c:Cls X.K C) (hm:Meth X.K C m f) (F:FnOk X.prog X.w X.K X.mg X.base CX k f fd ps sp) (hr:Room k X.A) (hb:Binds X.K fd ps ds) (hd:Vals dvs ds) (hx:Passes CX X E) (ha:PA X (e :: es) t)
  (hst:starEach (e :: es) X.env = (false, eval e X.env) :: starEach es X.env:=by rfl) (hpl:(backTo pos (starEach es X.env)).any (·.1) = false:=by rfl)
  (ht:eval (.Call (.Attribute o m apos) (e :: es) [] pos) X.env = (do
    let ov ← eval o X.env
    standAt apos.atName
    let (f, first) ← holding [ov] (getMethod ov m pl)
    callWith pos f first (backTo pos (starEach (e :: es) X.env)) (backToKw pos (keywordEach [] X.env))):=by rfl) :
  PE X (.Call (.Attribute o m apos) (e :: es) [] pos) (tMeth C m sp dvs E ta t):=by
 intro pins s σ H Q I h
 refine PySem.W.methodCall_KW (pl:=pl) (thn (he pins s σ H _ I h) fun u s1 ⟨x, H1, I1, rx, a, dx, fs, ex, ea, l, q⟩=>?_) ht
 subst ex
 obtain rfl:u = Value.ref a:=rx
 refine getmeth_ok I1 ea c hm l ?_
 refine PySem.W.callWith_K (first:=[.ref a]) (h₀:=X.base) I.ok.mod.kin hm.kp (thn (ha pos pins s1 σ H1 _ I1 q) fun us s2 ⟨vs, H2, I2, r, q2⟩=>⟨I2.kIn, ?_⟩) hst hpl
 exact run_fn (us:=.ref a :: us) (vs:=.ref a :: vs) F hr hb hd hx I2 (.cons rfl r) q2
theorem pe_meth0 {pl:Sem Bool} (he:PE X o ta) (c:Cls X.K C) (hm:Meth X.K C m f) (F:FnOk X.prog X.w X.K X.mg X.base CX k f fd ps sp) (hr:Room k X.A) (hb:Binds X.K fd ps ds) (hd:Vals dvs ds) (hx:Passes CX X E)
  (ht:eval (.Call (.Attribute o m apos) [] [] pos) X.env = (do
    let ov ← eval o X.env
    standAt apos.atName
    let (f, first) ← holding [ov] (getMethod ov m pl)
    callWith pos f first (backTo pos (starEach [] X.env)) (backToKw pos (keywordEach [] X.env))):=by rfl) :
  PE X (.Call (.Attribute o m apos) [] [] pos) (tMeth C m sp dvs E ta tNil):=by
 intro pins s σ H Q I h
 refine PySem.W.methodCall_KW (pl:=pl) (thn (he pins s σ H _ I h) fun u s1 ⟨x, H1, I1, rx, a, dx, fs, ex, ea, l, q⟩=>?_) ht
 subst ex
 obtain rfl:u = Value.ref a:=rx
 refine getmeth_ok I1 ea c hm l ?_
 exact PySem.W.callWith_K0 (first:=[.ref a]) I1.kIn hm.kp (run_fn (us:=[.ref a]) (vs:=[.ref a]) F hr hb hd hx I1 (.cons rfl .nil) q)
structure Mk (K:PySem.W.Frag) (C f:Addr):Prop where
 makes:PySem.W.makesIn K C = true
 init:PySem.W.findIn K (.ref C) "__init__" = some (some (.ref f))
 fn:PySem.W.isFn K (.ref f) = true
 kp:PySem.W.keepIn K (.ref C) = true
theorem run_make {pins:List (Addr × Obj)} {σ:St} {H:Hp} {s:Shared} {Q:VK} {us:List Value} {vs:List V} (M:Mk X.K C f) (F:FnOk X.prog X.w X.K X.mg X.base CX k f fd ps sp) (hr:Room (k + 1) X.A) (hb:Binds X.K fd ps ds) (hd:Vals dvs ds)
  (hx:Passes CX X E) (I:Inv X pins σ H s) (r:Vals vs us)
  (h:∀ x dx, H x = none -> H dx = none -> dx ≠ x -> sp (.ref x :: (vs ++ dvs)) (upd (upd H dx (.own x)) x (.ins C dx [])) (fun v H2=>v = .non ∧ Q (.ref x) H2) E) :
  wpAny (model X.prog X.w) X.A (call (.ref C) us) (EP X pins σ Q) X.xe s:=by
 have hq:=h (s.heap.objs.size + 1) s.heap.objs.size (I.hok.fresh (Nat.le_succ _)) (I.hok.fresh (Nat.le_refl _)) (Nat.ne_of_lt (Nat.lt_succ_self _))
 have I2:=Inv.made (C:=C) I
 have r2:Vals (V.ref (s.heap.objs.size + 1) :: (vs ++ dvs)) (Value.ref (s.heap.objs.size + 1) :: (us ++ ds)):=.cons rfl (r.append hd)
 have hl:(Value.ref (s.heap.objs.size + 1) :: us ++ ds).length = ps.length:=by
  have e:=r2.length
  rw [F.len _ _ _ _ hq] at e
  exact e.symm
 refine wpAny_call (make_map (f:=f) I.kIn M.makes M.init (beq_iff_eq.mp M.fn) (codeAny_mono (F.run _ X.stack _ _ ⟨Value.ref (s.heap.objs.size + 1) :: us, []⟩ (Value.ref (s.heap.objs.size + 1) :: (us ++ ds)) _ _ E (hr.make C us [])
  (I2.env0.make C us []) (hb _ (Value.ref (s.heap.objs.size + 1) :: us) I2.kIn hl) r2 hq) fun r s' hq'=>?_))
 cases r with
 | error e=>exact hx pins σ _ _ e s' I2 hq'
 | ok fl=>
   cases fl with
   | ret u=>
     obtain ⟨v, H', I3, rv, ev, q3⟩:=I2.after hq'
     subst ev
     exact ⟨rv, ⟨V.ref (s.heap.objs.size + 1), H', I3, rfl, q3⟩⟩
   | next=>exact False.elim hq'
   | brk=>exact False.elim hq'
   | cont=>exact False.elim hq'
theorem pe_make (M:Mk X.K C f) (F:FnOk X.prog X.w X.K X.mg X.base CX k f fd ps sp) (hr:Room (k + 1) X.A) (hg:Gl X x) (hm:X.mg x = some (.ref C)) (hb:Binds X.K fd ps ds) (hd:Vals dvs ds) (hx:Passes CX X E)
  (ha:PA X (e :: es) t) (hdb:(x == ("__debug__":Str)) = false:=by decide) (he:starEach (e :: es) X.env = (false, eval e X.env) :: starEach es X.env:=by rfl) (hpl:(backTo pos (starEach es X.env)).any (·.1) = false:=by rfl) :
  PE X (.Call (.Name x p) (e :: es) [] pos) (tMake C sp dvs E t):=by
 intro pins s σ H Q I h
 refine wpAny_Call_Name_kw (ld_glob I hg hm ?_ hdb)
 refine PySem.W.callWith_K (h₀:=X.base) I.ok.mod.kin M.kp (thn (ha pos pins s σ H _ I h) fun us s1 ⟨vs, H1, I1, r, q⟩=>⟨I1.kIn, ?_⟩) he hpl
 exact run_make M F hr hb hd hx I1 r q
end
def PK (X:Cx) (kws:List Keyword) (t:TA):Prop:=
 ∀ (pos:Pos) (pins:List (Addr × Obj)) (s:Shared) (σ:St) (H:Hp) (Q:List V -> Hp -> Prop), Inv X pins σ H s -> t σ H Q -> wpAny (model X.prog X.w) X.A (evalAll ((backToKw pos (keywordEach kws X.env)).map (·.2))) (AP X pins σ Q) X.xe s
section
variable {X:Cx} {CX:CXT} {k:Nat} {f C:Addr} {fd:FuncData} {ps ks:List Str} {sp:Sp} {E:XK} {x m:Str} {p pos apos kpos:Pos} {e o:Expr} {es:List Expr} {kws:List Keyword} {te ta:TE} {t tk:TA} {nm:Option Str}
theorem pk_nil:PK X [] tNil:=fun _ _ _ _ H Q I h=>wpAny_evalAll_nil ⟨[], H, I, .nil, h⟩
theorem pk_cons (ha:PE X e te) (hr:PK X kws t):PK X (⟨nm, e, kpos⟩ :: kws) (tCons te t):=by
 intro pos pins s σ H Q I h
 show wpAny _ _ (evalAll ((do let v ← eval e X.env; standAt pos; pure v) :: (backToKw pos (keywordEach kws X.env)).map (·.2))) _ _ s
 refine wpAny_evalAll_cons (wpAny_bind (thn (ha pins s σ H _ I h) fun u s1 ⟨x, H1, I1, r1, q1⟩=>wpAny_bind (wpAny_standAt (wpAny_pure ?_))))
 exact thn (hr pos pins s1 σ H1 _ I1 q1) fun us s2 ⟨xs, H2, I2, r2, q2⟩=>⟨x :: xs, H2, I2, .cons r1 r2, q2⟩
variable {g:List Value -> List Value -> List Value} {gV:List V -> List V -> List V}
end
structure FnScope (N P:List Str) (sc:Scope):Prop where
 kind:sc.kind = .function
 co:sc.isCoroutine = false
 gen:sc.isGenerator = false
 nd:N.Nodup
 pre:N.take P.length = P
 par:∀ x ∈ P, sc.names.lookup x = some .local ∨ sc.names.lookup x = some .cell
 nofree:∀ y ∈ sc.names, y.2 ≠ .free
theorem bindL_out {kindOf:Str -> Option NameKind} {x:Str}:∀ {binds:List (Str × Value)} {m:Str -> Option Value}, (∀ v, (x, v) ∉ binds) -> bindL kindOf binds m x = m x
 | [], _, _=>rfl
 | (n, v) :: r, m, h=>by
  unfold bindL
  rw [bindL_out fun w hw=>h w (List.mem_cons_of_mem _ hw)]
  split
  ·have:x ≠ n:=by rintro rfl; exact h v List.mem_cons_self
   simp [this]
  ·rfl
theorem bindC_out {kindOf:Str -> Option NameKind} {x:Str}:∀ {binds:List (Str × Value)} {m:Str -> Option Value}, (∀ v, (x, v) ∉ binds) -> bindC kindOf binds m x = m x
 | [], _, _=>rfl
 | (n, v) :: r, m, h=>by
  unfold bindC
  rw [bindC_out fun w hw=>h w (List.mem_cons_of_mem _ hw)]
  split
  ·rfl
  ·have:x ≠ n:=by rintro rfl; exact h v List.mem_cons_self
   simp [this]
theorem bindL_get {kindOf:Str -> Option NameKind} {x:Str} {v:Value}:∀ {P:List Str} {vs:List Value} {i:Nat} {m:Str -> Option Value}, P.Nodup -> P[i]? = some x -> vs[i]? = some v -> kindOf x = some .local ->
  bindL kindOf (P.zip vs) m x = some v
 | [], _, _, _, _, h, _, _=>by simp at h
 | _ :: _, [], _, _, _, _, h, _=>by simp at h
 | p :: P, w :: vs, 0, m, nd, h1, h2, hk=>by
   simp at h1 h2; subst h1; subst h2
   show bindL kindOf ((p, w) :: P.zip vs) m p = _
   unfold bindL
   rw [bindL_out fun v hv=>(List.nodup_cons.mp nd).1 (List.of_mem_zip hv).1, if_pos hk]
   simp
 | p :: P, w :: vs, i + 1, m, nd, h1, h2, hk=>by
   show bindL kindOf ((p, w) :: P.zip vs) m x = _
   unfold bindL
   exact bindL_get (i:=i) (List.nodup_cons.mp nd).2 (by simpa using h1) (by simpa using h2) hk
theorem bindC_get {kindOf:Str -> Option NameKind} {x:Str} {v:Value}:∀ {P:List Str} {vs:List Value} {i:Nat} {m:Str -> Option Value}, P.Nodup -> P[i]? = some x -> vs[i]? = some v -> kindOf x ≠ some .local ->
  bindC kindOf (P.zip vs) m x = some v
 | [], _, _, _, _, h, _, _=>by simp at h
 | _ :: _, [], _, _, _, _, h, _=>by simp at h
 | p :: P, w :: vs, 0, m, nd, h1, h2, hk=>by
   simp at h1 h2; subst h1; subst h2
   show bindC kindOf ((p, w) :: P.zip vs) m p = _
   unfold bindC
   rw [bindC_out fun v hv=>(List.nodup_cons.mp nd).1 (List.of_mem_zip hv).1, if_neg hk]
   simp
 | p :: P, w :: vs, i + 1, m, nd, h1, h2, hk=>by
   show bindC kindOf ((p, w) :: P.zip vs) m x = _
   unfold bindC
   exact bindC_get (i:=i) (List.nodup_cons.mp nd).2 (by simpa using h1) (by simpa using h2) hk
def start (N:List Str) (vs:List V):St:=vs.map some ++ List.replicate (N.length - vs.length) none
def cxOf (CX:CXT) (P:Program) (w:World) (K:PySem.W.Frag) (mg:Str -> Option Value) (base:Heap) (N:List Str) (qual:Str) (scope:Scope) (f:Addr) (cd:Value) (A:Around) (outer:List Env) (s:Shared) (H:Hp) (E:XK):Cx where
 prog:=P
 w:=w
 K:=K
 mg:=mg
 base:=base
 A:=A.deeper (envOfC qual scope s.heap.objs.size f cd)
 N:=N
 s₀:=s
 H₀:=H
 env:=envOfC qual scope s.heap.objs.size f cd
 outer:=outer
 stack:=envOfC qual scope s.heap.objs.size f cd :: outer
 ex:=[]
 calm:=true
 fn:=fun _=>true
 pn:=[]
 xe:=fun e s'=>wpAny (model P w) (A.deeper (envOfC qual scope s.heap.objs.size f cd)) (leaving (envOfC qual scope s.heap.objs.size f cd) e) (fun _ s''=>CX outer H s E e s'') (fun e' s''=>CX outer H s E e' s'') s'
theorem cell_has {sc:Scope} {n:Nat} {x:Str} (h:sc.names.lookup x = some .cell):∃ c, (cellsFrom n sc.names []).lookup x = some c:=by
 have q:=PySem.W.cellsFrom_some sc.names n [] (.inl h)
 exact Option.isSome_iff_exists.mp q
theorem inv_start {CX:CXT} {P:Program} {w:World} {K:PySem.W.Frag} {mg:Str -> Option Value} {base:Heap} {N ps:List Str} {qual:Str} {scope:Scope} {f:Addr} {cd:Value} {A:Around} {outer:List Env} {s s1:Shared} {H:Hp} {E:XK} {us:List Value} {vs:List V}
  (S:FnScope N ps scope) (hd:A.handled = none) (e0:Env0 P w K mg base A outer s H) (hl:vs.length = ps.length) (r:Vals vs us)
  (x:InCallC s s.heap.objs.size (bindL (envOfC qual scope s.heap.objs.size f cd).kindOf (ps.zip us) fun _=>none) (cellsFrom (s.heap.objs.size + 1) scope.names []) (bindC (envOfC qual scope s.heap.objs.size f cd).kindOf (ps.zip us) fun _=>none) s1) :
  Inv (cxOf CX P w K mg base N qual scope f cd A outer s H E) [] (start N vs) H s1:=by
 have hpl:ps.length ≤ N.length:=by have:=congrArg List.length S.pre; rw [List.length_take] at this; omega
 obtain ⟨h1, tk, rfl, hk⟩:=x.done
 have noA:∀ b:Addr, b ∉ (cxOf CX P w K mg base N qual scope f cd A outer s H E).ex:=fun b z=>absurd (show b ∈ ([]:List Addr) from z) (by simp)
 refine ⟨⟨e0.mod, S.kind, rfl, rfl, Nat.le_refl _, fun y z c h1 h2=>?_, fun y hy=>?_, fun y c _ h=>?_, fun _=>hd, Around.frames_deeper e0.frames, .inr ⟨rfl, rfl⟩, fun b z=>absurd z (noA b), e0.bs, e0.bsz, fun b _ _=>noA b, fun b z=>absurd z (noA b), e0.funs, e0.frf⟩,
  rfl, e0.bare, Un.kept hk, ⟨_, x.toInCall.ns, fun i y v h1 h2 h3=>?_⟩, fun y c h=>⟨_, x.cell y c h⟩, e0.hok.fresh (Nat.le_refl _), fun y c h=>?_, fun p hp=>absurd (show p ∈ ([]:List (Addr × Obj)) from hp) (by simp), e0.hok.kept hk, ?_⟩
 ·exact name_of_addr x.apart (PySem.mem_of_lookup h1) (PySem.mem_of_lookup h2)
 ·have hy:scope.names.lookup y = some .cell ∨ scope.names.lookup y = some .free:=hy
  rcases hy with hy | hy
  ·exact cell_has hy
  ·exact absurd rfl (S.nofree _ (PySem.mem_of_lookup hy))
 ·exact Nat.le_of_lt (x.above y c (PySem.mem_of_lookup h))
 ·have hi:i < vs.length:=by
   unfold start at h2
   by_cases hi:i < vs.length
   ·exact hi
   ·rw [List.getElem?_append_right (by simpa using hi)] at h2
    rw [List.getElem?_replicate] at h2
    split at h2 <;> cases h2
  have ha:vs[i]? = some v:=by
   unfold start at h2
   rw [List.getElem?_append_left (by simpa using hi), List.getElem?_map] at h2
   cases e:vs[i]? with
   | none=>rw [e] at h2; cases h2
   | some a=>rw [e] at h2; cases h2; rfl
  obtain ⟨u, hu, rv⟩:=r.get ha
  have hp:ps[i]? = some y:=by
   rw [← S.pre, List.getElem?_take_of_lt (by omega)]; exact h1
  have ndP:ps.Nodup:=by rw [← S.pre]; exact S.nd.sublist (List.take_sublist _ _)
  refine ⟨u, rv, ?_⟩
  rcases S.par y (List.mem_of_getElem? hp) with k | k
  ·exact .inl ⟨k, bindL_get ndP hp hu k⟩
  ·obtain ⟨c, e⟩:=cell_has (n:=s.heap.objs.size + 1) k
   refine .inr ⟨.inl k, c, e, ?_⟩
   have q:=x.cell y c e
   rw [bindC_get ndP hp hu (by show scope.names.lookup y ≠ _; rw [k]; decide)] at q
   exact q
 ·exact e0.hok.fresh (Nat.le_of_lt (x.above y c (PySem.mem_of_lookup h)))
 ·unfold start
  show _ = N.length
  rw [List.length_append, List.length_map, List.length_replicate]
  omega
theorem fn_of {CX:CXT} {P:Program} {w:World} {K:PySem.W.Frag} {mg:Str -> Option Value} {base:Heap} {k:Nat} {f:Addr} {name qual:Str} {params:Arguments} {body:List Stmt} {scope:Scope} {dV kV doc pm cdv ct oc:Value} {an od:Option Addr}
  {osl:Array (Option Value)} {N ps:List Str} {sp:Sp} (lk:K.lookup f = some ⟨oc, od, .func (PySem.W.fnOf name qual params body scope dV kV doc pm an cdv ct), osl⟩) (hcd:PySem.W.codeIn K cdv qual = true) (S:FnScope N ps scope)
  (len:∀ vs H Q E, sp vs H Q E -> vs.length = ps.length)
  (hbody:∀ (A:Around) (outer:List Env) (s:Shared) (H:Hp) (vs:List V) (Q:VK) (E:XK), Room k (A.deeper (envOfC qual scope s.heap.objs.size f cdv)) -> sp vs H Q E ->
    ∃ t, PSs (cxOf CX P w K mg base N qual scope f cdv A outer s H E) body t ∧ t { nx:=fun _ H'=>Q .non H', rt:=Q } (start N vs) H) :
  FnOk P w K mg base CX (k + 1) f (PySem.W.fnOf name qual params body scope dV kV doc pm an cdv ct) ps sp:=by
 refine ⟨len, fun A outer s H args us vs Q E hr e0 hb r hsp=>?_⟩
 have hl:=len _ _ _ _ hsp
 have KX:K.In s.heap:=e0.mod.kin.keeps fun b o e=>(e0.bs b o e).1
 have lim:s.heap.NoLimit:=e0.mod.nolimit.keeps fun b o e=>(e0.bs b o e).1
 have hkind:∀ y ∈ ps.zip us, scope.names.lookup y.1 = some .local ∨ (scope.names.lookup y.1 = some .cell ∧ ((cellsFrom (s.heap.objs.size + 1) scope.names []).lookup y.1).isSome = true):=fun ⟨n, v⟩ hy=>by
  rcases S.par n (List.of_mem_zip hy).1 with q | q
  ·exact .inl q
  ·exact .inr ⟨q, PySem.W.cellsFrom_some _ _ _ (.inl q)⟩
 refine codeAny_call_function hr.depth (KX _ _ lk) rfl S.co S.gen rfl (PySem.W.codeRec_of KX hcd) (hb _ _ _ _ ?_)
 refine wpAny_newFunctionEnv_cells S.kind hkind fun env he s1 x=>?_
 subst he
 refine ⟨lim.keeps x.toInCall.keep, codeAny_func ?_⟩
 obtain ⟨t, ht, hq⟩:=hbody A outer s H vs Q E (hr.deeper _) hsp
 have I:Inv (cxOf CX P w K mg base N qual scope f cdv A outer s H E) [] (start N vs) H s1:=inv_start S hr.hd e0 hl r x
 refine wpAny_mono (ht [] s1 (start N vs) H _ I hq) (fun fl s' hs=>?_) fun e s' hs=>hs
 have fin:∀ {σ':St} {H':Hp} {v:V} {u:Value}, Inv (cxOf CX P w K mg base N qual scope f cdv A outer s H E) [] σ' H' s' -> RelV v u -> Q v H' -> CE outer P w H s Q u s':=
  fun {σ' H' v u} J rv q=>⟨v, H', J.os, J.bare, J.base, J.hok, rv, q⟩
 cases fl with
 | ret u=>
   obtain ⟨v, σ', H', J, rv, q⟩:=hs
   exact fin J rv q
 | next=>
   obtain ⟨σ', H', J, q⟩:=hs
   exact fin (v:=V.non) (u:=Value.none) J rfl q
 | brk=>
   obtain ⟨_, _, _, q⟩:=hs
   exact False.elim q
 | cont=>
   obtain ⟨_, _, _, q⟩:=hs
   exact False.elim q
end L2
namespace L2
open PySem PySem.Spec PyProof.Rows
section
variable {X:Cx} {x:Str} {p pos:Pos} {e:Expr} {es:List Expr} {t:TA} {id T:String} {r:List V -> Hp -> VK -> Prop}
def tCB (r:List V -> Hp -> VK -> Prop) (t:TA):TE:=fun σ H Q=>t σ H fun vs H1=>r vs H1 Q
theorem pe_callB (hc:CallR X (.builtin id) r) (hg:Gl X x) (hm:X.mg x = none) (hv:bootBuiltins x = some (.builtin id)) (ha:PA X (e :: es) t) (hn:x ≠ "__name__":=by decide) (hdb:(x == ("__debug__":Str)) = false:=by decide)
  (he:starEach (e :: es) X.env = (false, eval e X.env) :: starEach es X.env:=by rfl) (hpl:(backTo pos (starEach es X.env)).any (·.1) = false:=by rfl):PE X (.Call (.Name x p) (e :: es) [] pos) (tCB r t):=by
 intro pins s σ H Q I h
 refine wpAny_Call_Name_kw (ld_blt I hg hm hv ?_ hn hdb)
 exact PyProof.Rows.callWith_builtin1 (thn (ha pos pins s σ H _ I h) fun us s1 ⟨vs, H1, I1, r1, q1⟩=>hc pins s1 σ H1 vs us Q I1 r1 q1) he hpl
theorem pe_callTy (hc:CallR X (.type T) r) (hg:Gl X x) (hm:X.mg x = none) (hv:bootBuiltins x = some (.type T)) (ha:PA X (e :: es) t) (hn:x ≠ "__name__":=by decide) (hdb:(x == ("__debug__":Str)) = false:=by decide)
  (he:starEach (e :: es) X.env = (false, eval e X.env) :: starEach es X.env:=by rfl) (hpl:(backTo pos (starEach es X.env)).any (·.1) = false:=by rfl):PE X (.Call (.Name x p) (e :: es) [] pos) (tCB r t):=by
 intro pins s σ H Q I h
 refine wpAny_Call_Name_kw (ld_blt I hg hm hv ?_ hn hdb)
 exact PyProof.Rows.callWith_type1 (thn (ha pos pins s σ H _ I h) fun us s1 ⟨vs, H1, I1, r1, q1⟩=>hc pins s1 σ H1 vs us Q I1 r1 q1) he hpl
end
end L2
namespace HT
open PySem PyProof.Rows
def lexLt:List Int -> List Int -> Bool
 | [], []=>false
 | [], _ :: _=>true
 | _ :: _, []=>false
 | x :: xs, y :: ys=>if x = y then lexLt xs ys else decide (x < y)
theorem lexLt_cons (x y:Int) (xs ys:List Int):lexLt (x :: xs) (y :: ys) = if x = y then lexLt xs ys else decide (x < y):=rfl
theorem lexLt_nil_nil:lexLt [] [] = false:=rfl
theorem lexLt_nil_cons (y:Int) (ys:List Int):lexLt [] (y :: ys) = true:=rfl
theorem lexLt_cons_nil (x:Int) (xs:List Int):lexLt (x :: xs) [] = false:=rfl
theorem eqAt_int (A:Around) (s:Shared) (a:Int) (t:Tok) (c:Int) (u:Tok):∃ e, SeqAt.EqAt A s (.int a t) (.int c u) e ∧ (e = true ↔ a = c):=
 ⟨(a == c), SeqAt.EqAt.int_int a t c u, by simp⟩
theorem rcLt_int (A:Around) (s:Shared) (a:Int) (t:Tok) (c:Int) (u:Tok) (prog:Program) (w:World) (E:Value -> Shared -> Prop) (Q:Value -> Shared -> Prop) (h:Q (.bool (decide (a < c))) s) :
  wpAny (model prog w) A (richCompare .Lt (.int a t) (.int c u)) Q E s:=
 (PyProof.Rows.lt_int h:wpAny (model prog w) A (compareOp .Lt (.int a t) (.int c u)) Q E s)
section
open PySem.SeqAt
open PySem.AutoSeq1 (wpAny_loadPart')
open PySem.MeetsSeq PySem.MeetsSeq2 PySem.MeetsSeq3
theorem tuple_lt_ints (l b:Addr) (items items2:Array Value) (n n2:Nat) (dd dd2:Option Addr) (sl sl2:Array (Option Value)) (ns ms:List Int) (hi:IntsAre items.toList ns) (hj:IntsAre items2.toList ms) :
  Meets (Builtin.«tuple.__lt__» ⟨[.ref l, .ref b], []⟩)
   (fun _ R s=>s.heap.get? l = some { cls:=.type "tuple", dict:=dd, data:=.seq items n, slots:=sl } ∧ s.heap.get? b = some { cls:=.type "tuple", dict:=dd2, data:=.seq items2 n2, slots:=sl2 } ∧
     R (.ok (.ret (.bool (lexLt ns ms)))) s):=
 .of_wp fun prog w A R s h=>by
  obtain ⟨hp, g, d, tk, os⟩:=s; obtain ⟨hl, hb, h⟩:=h
  have f2:=AutoSeq1.sub_tuple_tuple
  have z1:items.size = ns.length:=by rw [← hi.length]; simp
  have z2:items2.size = ms.length:=by rw [← hj.length]; simp
  wp_walk using wpAny_loadPart' hl, wpAny_loadPart' hb, wpAny_forIn_list _ (fun rest b s'=>b.1 = none ∧ s' = ⟨hp, g, d, tk, os⟩ ∧ ∃ (vs ws:List Value) (ns' ms':List Int), rest = vs.zip ws ∧
   IntsAre vs ns' ∧ IntsAre ws ms' ∧ ns'.length + items2.size = ms'.length + items.size ∧ R (.ok (.ret (.bool (lexLt ns' ms')))) ⟨hp, g, d, tk, os⟩) _
  case turn=>
   rintro ⟨y, x⟩ rest b s' ⟨hb', rfl, vs, ws, ns', ms', hz, hvi, hwi, hlen, hR⟩
   cases hvi with
   | nil=>rw [List.zip_nil_left] at hz; cases hz
   | cons a t hvi'=>
     cases hwi with
     | nil=>rw [List.zip_nil_right] at hz; cases hz
     | cons c u hwi'=>
       rw [List.zip_cons_cons] at hz
       injection hz with hyx hrest
       injection hyx with hy hx
       subst hy hx
       rw [lexLt_cons] at hR
       simp only [List.length_cons] at hlen
       obtain ⟨e, he, hiff⟩:=eqAt_int A.in1 ⟨hp, g, d, tk, os⟩ a t c u
       refine wpAny_bind (he prog w _ _ ?_)
       cases e with
       | true=>
         rw [if_pos (hiff.mp rfl)] at hR
         wp_walk
         exact ⟨rfl, rfl, _, _, _, _, hrest, hvi', hwi', by omega, hR⟩
       | false=>
         rw [if_neg (fun q=>absurd (hiff.mpr q) Bool.false_ne_true)] at hR
         have hri:=rcLt_int A.in1 ⟨hp, g, d, tk, os⟩ a t c u prog w
         wp_walk using hri
         exact ⟨_, rfl, by simpa using hR⟩
  case fin=>
   rintro ⟨b1, b2⟩ s' ⟨hb', rfl, vs, ws, ns', ms', hz, hvi, hwi, hlen, hR⟩
   simp only at hb'
   subst hb'
   have hv:lexLt ns' ms' = decide (items.size < items2.size):=by
    cases hvi with
    | nil=>
      cases hwi with
      | nil=>
        simp only [List.length_nil] at hlen
        rw [lexLt_nil_nil]
        exact (decide_eq_false (by omega)).symm
      | cons c u hw=>
        simp only [List.length_nil, List.length_cons] at hlen
        rw [lexLt_nil_cons]
        exact (decide_eq_true (by omega)).symm
    | cons a t hv=>
      cases hwi with
      | nil=>
        simp only [List.length_nil, List.length_cons] at hlen
        rw [lexLt_cons_nil]
        exact (decide_eq_false (by omega)).symm
      | cons c u hw=>
        rw [List.zip_cons_cons] at hz
        cases hz
   rw [hv] at hR
   wp_walk
   exact ⟨_, rfl, by simpa [Builtin.Tuple.tupleCompareSizes] using hR⟩
  case h=>
   exact ⟨rfl, rfl, items.toList, items2.toList, ns, ms, rfl, hi, hj, by omega, h⟩
end
section
variable {prog:Program} {w:World} {A:Around} {E:Value -> Shared -> Prop} {s:Shared}
theorem lt_tupInts {l b:Addr} {items items2:Array Value} {ns ms:List Int} {Q:Value -> Shared -> Prop} (hl:IsTup s.heap l items) (hb:IsTup s.heap b items2) (hi:IntsAre items.toList ns) (hj:IntsAre items2.toList ms)
  (hu:A.units < cLine) (h:Q (.bool (lexLt ns ms)) s):wpAny (model prog w) A (compareOp .Lt (.ref l) (.ref b)) Q E s:=by
 obtain ⟨⟨cls, dd, data, sl⟩, ho, hc, n, hd⟩:=id hl
 obtain ⟨⟨cls2, dd2, data2, sl2⟩, ho2, hc2, n2, hd2⟩:=id hb
 simp only at hc hd hc2 hd2
 subst hc hd hc2 hd2
 exact richCompare_meets_room (op:=.Lt) ⟨_, ho, rfl⟩ ⟨_, ho2, rfl⟩ PySem.F.slot_tuple_lt PySem.F.entry_tuple_lt (PySem.F.args_tuple_lt_2 _ _) (tuple_lt_ints l b items items2 n n2 dd dd2 sl sl2 ns ms hi hj)
  ⟨ho, ho2, show Value.bool (lexLt ns ms) ≠ Value.notImplemented ∧ Q (.bool (lexLt ns ms)) s from ⟨(fun x=>nomatch x), h⟩⟩ hu
def sIx (n d:Nat):Option Int -> Nat
 | none=>d
 | some v=>if v < 0 then (v + (n:Int)).toNat else min v.toNat n
theorem sIx_none (n d:Nat):sIx n d none = d:=rfl
theorem sIx_nat (n d k:Nat):sIx n d (some (k:Int)) = min k n:=by
 show (if (k:Int) < 0 then ((k:Int) + (n:Int)).toNat else min (k:Int).toNat n) = min k n
 rw [if_neg (by omega), Int.toNat_natCast]
end
end HT
namespace L2
open PySem PySem.Spec PyProof.Rows
abbrev TO:=St -> Hp -> (Option Int -> Hp -> Prop) -> Prop
def PO (X:Cx) (e:Option Expr) (t:TO):Prop:=
 ∀ (pins:List (Addr × Obj)) (s:Shared) (σ:St) (H:Hp) (Q:Option Int -> Hp -> Prop), Inv X pins σ H s -> t σ H Q ->
  wpAny (model X.prog X.w) X.A (evalPart e X.env) (fun u s'=>∃ o H', Inv X pins σ H' s' ∧ IsPart u o ∧ Q o H') X.xe s
def tNoPart:TO:=fun _ H Q=>Q none H
def tPart (t:TE):TO:=fun σ H Q=>t σ H fun x H1=>∃ i, x = .int i ∧ Q (some i) H1
theorem intsAre_of {ns:List Int}:∀ {us:List Value}, Vals (ns.map V.int) us -> IntsAre us ns:=by
 induction ns with
 | nil=>intro us r; rw [List.map_nil] at r; cases r; exact .nil
 | cons n ns ih=>
   intro us r
   rw [List.map_cons] at r
   cases r with
   | cons r1 r2=>
     obtain ⟨t, e⟩:=r1
     subst e
     exact .cons n t (ih r2)
section
variable {X:Cx} {e:Expr} {te:TE} {lo hi:Option Expr} {tl th:TO} {pos p2:Pos}
theorem po_none:PO X none tNoPart:=by
 intro pins s σ H Q I h
 rw [evalPart_none]
 exact wpAny_pure ⟨none, H, I, .none, h⟩
theorem po_some (h:PE X e te):PO X (some e) (tPart te):=by
 intro pins s σ H Q I hw
 rw [evalPart_some]
 refine thn (h pins s σ H _ I hw) fun u s1 ⟨x, H1, I1, r1, q1⟩=>?_
 obtain ⟨i, rfl, q⟩:=q1
 obtain ⟨t, rfl⟩:=r1
 exact ⟨some i, H1, I1, .int i t, q⟩
def SlR (X:Cx) (r:V -> Option Int -> Option Int -> Hp -> VK -> Prop):Prop:=
 ∀ (pins:List (Addr × Obj)) (s:Shared) (σ:St) (H:Hp) (x:V) (v vl vu:Value) (lo hi:Option Int) (sl:Addr) (Q:VK), Inv X pins σ H s -> RelV x v -> s.heap.IsSliceOf sl vl vu .none -> IsPart vl lo -> IsPart vu hi -> r x lo hi H Q ->
  ∃ T id, typeLookup (.type T) "__getitem__" = pure (some (.builtin id)) ∧ s.TypeIs v T ∧ wpAny (model X.prog X.w) X.A (getItem v (.ref sl)) (EP X pins σ Q) X.xe s
def tSl (r:V -> Option Int -> Option Int -> Hp -> VK -> Prop) (te:TE) (tl th:TO):TE:=fun σ H Q=>te σ H fun x H1=>tl σ H1 fun l H2=>th σ H2 fun u H3=>r x l u H3 Q
theorem pe_slice {r:V -> Option Int -> Option Int -> Hp -> VK -> Prop} (hr:SlR X r) (he:PE X e te) (hl:PO X lo tl) (hu:PO X hi th):PE X (.Subscript e (.Slice lo hi none p2) pos) (tSl r te tl th):=by
 intro pins s σ H Q I h
 refine Subscript_ (thn (he pins s σ H _ I h) fun v s1 ⟨x, H1, I1, r1, q1⟩=>?_)
 refine wpAny_Slice (thn (hl pins s1 σ H1 _ I1 q1) fun vl s2 ⟨l, H2, I2, pl, q2⟩=>thn (hu pins s2 σ H2 _ I2 q2) fun vu s3 ⟨u, H3, I3, pu, q3⟩=>?_)
 rw [evalPart_none]
 refine wpAny_pure ?_
 have I4:Inv X pins σ H3 { s3 with heap:=s3.heap.push { cls:=.type "slice", data:=.fields #[vl, vu, .none] } }:=I3.kept (t':=s3.toks) fun b ob q=>Heap.get?_push_of_some _ q
 obtain ⟨T, id, hT, ht, hg⟩:=hr pins { s3 with heap:=s3.heap.push { cls:=.type "slice", data:=.fields #[vl, vu, .none] } } σ H3 x v vl vu l u s3.heap.objs.size Q I4 r1 (Heap.IsSliceOf.new ..) pl pu q3
 show wpAny (model X.prog X.w) X.A (subscriptTail e (.Slice lo hi none p2) v (.ref s3.heap.objs.size)) (EP X pins σ Q) X.xe { s3 with heap:=s3.heap.push { cls:=.type "slice", data:=.fields #[vl, vu, .none] } }
 exact tail_any (ops:=[.ref s3.heap.objs.size, v]) ht hT hg (by with_unfolding_all rfl)
def cutV (xs:List V) (lo hi:Option Int):List V:=(xs.drop (HT.sIx xs.length 0 lo)).take (HT.sIx xs.length xs.length hi - HT.sIx xs.length 0 lo)
theorem cutV_length (xs:List V) (lo hi:Option Int):(cutV xs lo hi).length ≤ xs.length:=by
 unfold cutV
 rw [List.length_take, List.length_drop]
 omega
def rLtT (K:PySem.W.Frag):R2:=fun x y H Q=>∃ a b ns ms, x = .ref a ∧ y = .ref b ∧ SqT K H a (ns.map V.int) ∧ SqT K H b (ms.map V.int) ∧ Q (.bl (HT.lexLt ns ms)) H
theorem op_ltT (hu:X.A.units < cLine):OpR X (compareOp .Lt) (rLtT X.K):=by
 intro pins s σ H x y v u Q I rx ry h
 obtain ⟨a, b, ns, ms, rfl, rfl, ha, hb, q⟩:=h
 cases rx
 cases ry
 obtain ⟨its, r1, p1, _⟩:=I.tuple ha
 obtain ⟨its2, r2, p2, _⟩:=I.tuple hb
 have i1:IntsAre its.toArray.toList ns:=intsAre_of r1
 have i2:IntsAre its2.toArray.toList ms:=intsAre_of r2
 exact HT.lt_tupInts p1 p2 i1 i2 hu ⟨.bl (HT.lexLt ns ms), H, I, rfl, q⟩
end
end L2
namespace L2
open PySem PySem.Spec PyProof.Rows
def ixN (n:Nat) (i:Int):Option Nat:=if 0 ≤ i then (if i < n then some i.toNat else none) else if -(n:Int) ≤ i then some (i + n).toNat else none
def atI {α:Type} (xs:List α) (i:Int):Option α:=(ixN xs.length i).bind fun j=>xs[j]?
theorem ixN_seq {n:Nat} {i:Int} {j:Nat} (h:ixN n i = some j):seqIndex? i n = some j ∧ j < n ∧ -(n:Int) ≤ i ∧ i < n:=by
 unfold ixN at h
 by_cases h0:0 ≤ i
 ·rw [if_pos h0] at h
  by_cases h1:i < n
  ·rw [if_pos h1] at h
   have e:i.toNat = j:=Option.some.inj h
   exact ⟨by rw [seqIndex_of h0 h1, e], by omega, by omega, h1⟩
  ·rw [if_neg h1] at h; cases h
 ·rw [if_neg h0] at h
  by_cases h1:-(n:Int) ≤ i
  ·rw [if_pos h1] at h
   have e:(i + n).toNat = j:=Option.some.inj h
   exact ⟨by rw [seqIndex_neg (by omega) h1, e], by omega, h1, by omega⟩
  ·rw [if_neg h1] at h; cases h
theorem atI_get {α:Type} {xs:List α} {i:Int} {v:α} (h:atI xs i = some v):∃ j, seqIndex? i xs.length = some j ∧ xs[j]? = some v ∧ j < xs.length ∧ -(xs.length:Int) ≤ i ∧ i < xs.length:=by
 unfold atI at h
 cases e:ixN xs.length i with
 | none=>rw [e] at h; cases h
 | some j=>
   rw [e] at h
   obtain ⟨h1, h2, h3, h4⟩:=ixN_seq e
   exact ⟨j, h1, h, h2, h3, h4⟩
theorem atI_nat {α:Type} {xs:List α} {j:Nat} {v:α} (h:xs[j]? = some v):atI xs (j:Int) = some v:=by
 have hj:j < xs.length:=(List.getElem?_eq_some_iff.mp h).1
 have e:ixN xs.length (j:Int) = some j:=by
  unfold ixN
  rw [if_pos (by omega), if_pos (by omega)]; simp
 unfold atI; rw [e]; exact h
def PlainIx (b:Expr):Prop:=∀ o i, subscripted b false o i = operate [o, i] (getItem o i)
def IxR (X:Cx) (r:R2):Prop:=
 ∀ (value slice:Expr) (pins:List (Addr × Obj)) (s:Shared) (σ:St) (H:Hp) (x y:V) (v u:Value) (Q:VK), Inv X pins σ H s -> RelV x v -> RelV y u -> r x y H Q ->
  subscripted slice false v u = operate [v, u] (getItem v u) -> wpAny (model X.prog X.w) X.A (subscriptTail value slice v u) (EP X pins σ Q) X.xe s
def MtR (X:Cx) (id:String) (r:V -> List V -> Hp -> VK -> Prop):Prop:=
 ∀ (pins:List (Addr × Obj)) (s:Shared) (σ:St) (H:Hp) (x:V) (xs:List V) (v:Value) (us:List Value) (Q:VK), Inv X pins σ H s -> RelV x v -> Vals xs us -> r x xs H Q ->
  wpAny (model X.prog X.w) X.A (call (.builtin id) (v :: us)) (EP X pins σ Q) X.xe s
section
variable {X:Cx} {a b:Expr} {ta tb:TE} {pos:Pos}
theorem pe_ix {r:R2} (hr:IxR X r) (ha:PE X a ta) (hb:PE X b tb) (hs:PlainIx b):PE X (.Subscript a b pos) (tOp r ta tb):=by
 intro pins s σ H Q I h
 exact Subscript_ (binT ha hb I h fun v u s2 x y H2 I2 rx ry q=>hr a b pins s2 σ H2 x y v u Q I2 rx ry q (hs _ _))
def rIxL (K:PySem.W.Frag):R2:=fun x y H Q=>∃ p xs i v, x = .ref p ∧ y = .int i ∧ SqL K H p xs ∧ atI xs i = some v ∧ Q v H
def rIxT (K:PySem.W.Frag):R2:=fun x y H Q=>∃ p xs i v, x = .ref p ∧ y = .int i ∧ SqT K H p xs ∧ atI xs i = some v ∧ Q v H
def rIxS:R2:=fun x y H Q=>∃ z i c, x = .str z ∧ y = .int i ∧ z.length ≤ sizeLine ∧ atI z.cps.toList i = some c ∧ Q (.str ⟨#[c]⟩) H
theorem ix_list:IxR X (rIxL X.K):=by
 intro value slice pins s σ H x y v u Q I rx ry h hs
 obtain ⟨p, xs, i, z, rfl, rfl, hq, he, q⟩:=h
 cases rx
 obtain ⟨t, rfl⟩:=ry
 obtain ⟨its, r, pl, hz⟩:=I.list hq
 obtain ⟨j, h1, h2, h3, h4, h5⟩:=atI_get he
 obtain ⟨w, ew, rw'⟩:=r.get h2
 have hl:=r.length
 have hn:=line63
 have fin:EP X pins σ Q w s:=⟨z, H, I, rw', q⟩
 by_cases h0:0 ≤ i
 ·have hj:i.toNat = j:=by
   rw [seqIndex_of h0 h5] at h1
   exact Option.some.inj h1
  exact item_listR pl.isList h0 (by omega) (by rw [hj]; simpa using ew) fin hs
 ·have hj:(i + (its.toArray.size:Int)).toNat = j:=by
   rw [seqIndex_neg (by omega) h4] at h1
   rw [List.size_toArray, ← hl]
   exact Option.some.inj h1
  exact subscriptTail_builtinR (x:=w) pl.isList.typeIs slot_list_getitem.lookup
   (wpAny_getItem_list_neg (Q:=fun r s'=>r = w ∧ EP X pins σ Q r s') pl.isList (by omega) (by rw [List.size_toArray] <;> omega) (by omega) (by rw [hj]; simpa using ew) ⟨rfl, fin⟩) hs
theorem ix_tup:IxR X (rIxT X.K):=by
 intro value slice pins s σ H x y v u Q I rx ry h hs
 obtain ⟨p, xs, i, z, rfl, rfl, hq, he, q⟩:=h
 cases rx
 obtain ⟨t, rfl⟩:=ry
 obtain ⟨its, r, pl, hz⟩:=I.tuple hq
 obtain ⟨j, h1, h2, h3, h4, h5⟩:=atI_get he
 obtain ⟨w, ew, rw'⟩:=r.get h2
 have hl:=r.length
 have hn:=line63
 have fin:EP X pins σ Q w s:=⟨z, H, I, rw', q⟩
 exact subscriptTail_builtinR (x:=w) pl.typeIs slot_tuple_getitem.lookup
  (getItem_tuple (j:=j) (Q:=fun r s'=>r = w ∧ EP X pins σ Q r s') pl (by omega) (by omega) (by rw [List.size_toArray, ← hl]; exact h1) (by simpa using ew) ⟨rfl, fin⟩) hs
theorem ix_str:IxR X rIxS:=by
 intro value slice pins s σ H x y v u Q I rx ry h hs
 obtain ⟨z, i, c, rfl, rfl, hz, he, q⟩:=h
 obtain ⟨t, rfl⟩:=rx
 obtain ⟨t', rfl⟩:=ry
 obtain ⟨j, h1, h2, h3, h4, h5⟩:=atI_get he
 have hl:z.cps.toList.length = z.length:=by simp [Str.length]
 rw [hl] at h1 h4 h5
 have hn:=line63
 exact tail_any (typeIs_str s z t) slot_str_getitem.lookup (getItem_str (c:=c) (by
  have e1:decide (i < -(2 ^ 63:Int)) = false:=decide_eq_false (by omega)
  have e2:decide (i ≥ 2 ^ 63) = false:=decide_eq_false (by omega)
  rw [e1, e2, Bool.or_false]) (by rw [h1]; simpa using h2) ⟨.str ⟨#[c]⟩, H, I.tok _, ⟨_, rfl⟩, q⟩) hs
theorem mapSeq_set (its:List Value) (n j:Nat) (u:Value):Obj.mapSeq (·.setIfInBounds j u) { cls:=.type "list", data:=.seq its.toArray n } = { cls:=.type "list", data:=.seq (its.set j u).toArray n }:=by
 simp [Obj.mapSeq]
theorem Inv.lst {pins:List (Addr × Obj)} {σ:St} {H:Hp} {s:Shared} {p:Addr} {xs:List V} (I:Inv X pins σ H s) (h:H p = some (.lst xs)) :
  ∃ (its:List Value) (n:Nat), Vals xs its ∧ s.heap.get? p = some { cls:=.type "list", data:=.seq its.toArray n } ∧ xs.length ≤ sizeLine:=by
 obtain ⟨z, its, n, r, e⟩:=I.hok p _ h
 exact ⟨its, n, r, e, z⟩
theorem Inv.lstUpd {pins:List (Addr × Obj)} {σ:St} {H:Hp} {s:Shared} {p:Addr} {xs ys:List V} {its its':List Value} {n n':Nat} {f:Obj -> Obj} (I:Inv X pins σ H s) (h:H p = some (.lst xs))
  (ho:s.heap.get? p = some { cls:=.type "list", data:=.seq its.toArray n }) (hf:f { cls:=.type "list", data:=.seq its.toArray n } = { cls:=.type "list", data:=.seq its'.toArray n' }) (r:Vals ys its') (hz:ys.length ≤ sizeLine) (t:Nat) :
  Inv X pins σ (upd H p (.lst ys)) { s with heap:=s.heap.update p f, toks:=t }:=by
 have e:(s.heap.update p f).get? p = some { cls:=.type "list", data:=.seq its'.toArray n' }:=by
  rw [Heap.get?_update_self f ho (by rw [hf] <;> rfl), hf]
 refine I.write (x:=p) (e:=p) (by rw [h]; trivial) (.inl rfl) (fun b u hb q=>(Heap.get?_update_other _ _ (Ne.symm hb)).trans q) ⟨_, e⟩ ?_
 exact ⟨hz, its', n', r, e⟩
def rSetL:V -> V -> V -> Hp -> (Hp -> Prop) -> Prop:=fun o i v H Q=>∃ p xs k j, o = .ref p ∧ i = .int k ∧ H p = some (.lst xs) ∧ ixN xs.length k = some j ∧ Q (upd H p (.lst (xs.set j v)))
theorem set_list:PSet X rSetL:=by
 intro pins s σ H o i v ov iv u Q I ro ri rv h
 obtain ⟨p, xs, k, j, rfl, rfl, hp, hj, q⟩:=h
 cases ro
 obtain ⟨t, rfl⟩:=ri
 obtain ⟨its, n, r, ho, hz⟩:=I.lst hp
 obtain ⟨h1, h2, h3, h4⟩:=ixN_seq hj
 have hl:=r.length
 have hn:=line63
 have I':Inv X pins σ (upd H p (.lst (xs.set j v))) { s with heap:=s.heap.update p (Obj.mapSeq (·.setIfInBounds j u)) }:=
  I.lstUpd hp ho (mapSeq_set its n j u) (r.set rv j) (by rw [List.length_set]; exact hz) s.toks
 by_cases h0:0 ≤ k
 ·have hk:k.toNat = j:=by
   rw [seqIndex_of h0 h4] at h1
   exact Option.some.inj h1
  exact PySem.W.ki_setAt ho h0 (by omega) (by rw [List.size_toArray, ← hl]; exact h4) (by rw [hk]; exact ⟨_, I', q⟩)
 ·have hk:(k + (its.toArray.size:Int)).toNat = j:=by
   rw [seqIndex_neg (by omega) h3] at h1
   rw [List.size_toArray, ← hl]
   exact Option.some.inj h1
  exact PySem.W.ki_setBack ho (by omega) (by rw [List.size_toArray, ← hl]; exact h3) (by omega) (by rw [hk]; exact ⟨_, I', q⟩)
theorem slice_bounds (lo hi:Option Int) (n:Nat):(sliceBounds lo hi none n).1 = ((HT.sIx n 0 lo:Nat):Int) ∧ (sliceBounds lo hi none n).2.1 = ((HT.sIx n n hi:Nat):Int) ∧ (sliceBounds lo hi none n).2.2 = 1:=by
 refine ⟨?_, ?_, rfl⟩
 ·cases lo with
  | none=>simp [sliceBounds, HT.sIx]
  | some i=>
    simp only [sliceBounds, HT.sIx, Option.getD_none, show (1:Int) > 0 by decide, if_true]
    by_cases h:i < 0
    ·simp only [h, if_true] <;> omega
    ·simp only [h, if_false] <;> omega
 ·cases hi with
  | none=>simp [sliceBounds, HT.sIx]
  | some i=>
    simp only [sliceBounds, HT.sIx, Option.getD_none, show (1:Int) > 0 by decide, if_true]
    by_cases h:i < 0
    ·simp only [h, if_true] <;> omega
    ·simp only [h, if_false] <;> omega
theorem slicePick_cut (its:List Value) (lo hi:Option Int):slicePick its.toArray lo hi none = ((its.drop (HT.sIx its.length 0 lo)).take (HT.sIx its.length its.length hi - HT.sIx its.length 0 lo)).toArray:=by
 obtain ⟨h1, h2, h3⟩:=slice_bounds lo hi its.toArray.size
 unfold slicePick
 rw [h1, h2, h3]
 simp only [sliceRange_one, pick_run, List.size_toArray] <;> rfl
def rSlL (K:PySem.W.Frag):V -> Option Int -> Option Int -> Hp -> VK -> Prop:=fun x lo hi H Q=>∃ a xs, x = .ref a ∧ SqL K H a xs ∧ ∀ p, H p = none -> Q (.ref p) (upd H p (.lst (cutV xs lo hi)))
theorem sl_list:SlR X (rSlL X.K):=by
 intro pins s σ H x v vl vu lo hi sl Q I rx hs pl pu h
 obtain ⟨a, xs, rfl, hx, q⟩:=h
 cases rx
 obtain ⟨its, r, ht, hz⟩:=I.list hx
 have hlen:=r.length
 refine ⟨"list", _, slot_list_getitem.lookup, ht.isList.typeIs, ?_⟩
 refine wpAny_getItem_list_slice ht.isList hs pl pu .none (by simp) ?_ (by rw [List.size_toArray] <;> omega)
 rw [slicePick_cut, ← hlen]
 refine ⟨.ref s.heap.objs.size, _, I.laid (t':=s.toks) (o:=.lst (cutV xs lo hi)) (fun b ob q=>Heap.get?_push_of_some _ q) (Nat.le_refl _) ?_, rfl, q _ (I.hok.fresh (Nat.le_refl _))⟩
 exact ⟨Nat.le_trans (cutV_length xs lo hi) hz, _, 0, (r.drop (HT.sIx xs.length 0 lo)).take (HT.sIx xs.length xs.length hi - HT.sIx xs.length 0 lo), Heap.get?_push_size _ rfl⟩
def flatV:V -> Bool
 | .non=>true
 | .bl _=>true
 | .int _=>true
 | .str _=>true
 | _=>false
def eqV:V -> V -> Bool
 | .non, .non=>true
 | .bl a, .bl b=>a == b
 | .bl a, .int b=>(if a then 1 else 0) == b
 | .int a, .bl b=>a == (if b then 1 else 0)
 | .int a, .int b=>a == b
 | .str a, .str b=>a == b
 | _, _=>false
theorem eqAt_V {A:Around} {s:Shared} {y x:V} {u v:Value} (ry:RelV y u) (rx:RelV x v) (fy:flatV y = true) (fx:flatV x = true):SeqAt.EqAt A s u v (eqV y x):=by
 cases y with
 | non=>
   cases ry
   cases x with
   | non=>cases rx; exact SeqAt.EqAt.same _
   | bl b=>cases rx; exact SeqAt.EqAt.none_bool b
   | int b=>obtain ⟨t, rfl⟩:=rx; exact SeqAt.EqAt.none_int b t
   | str b=>obtain ⟨t, rfl⟩:=rx; exact SeqAt.EqAt.none_str b t
   | _=>exact absurd (show false = true from fx) Bool.false_ne_true
 | bl a=>
   cases ry
   cases x with
   | non=>cases rx; exact SeqAt.EqAt.bool_none a
   | bl b=>cases rx; exact SeqAt.EqAt.bool_bool a b
   | int b=>obtain ⟨t, rfl⟩:=rx; exact SeqAt.EqAt.bool_int a b t
   | str b=>obtain ⟨t, rfl⟩:=rx; exact SeqAt.EqAt.bool_str a b t
   | _=>exact absurd (show false = true from fx) Bool.false_ne_true
 | int a=>
   obtain ⟨t', rfl⟩:=ry
   cases x with
   | non=>cases rx; exact SeqAt.EqAt.int_none a t'
   | bl b=>cases rx; exact SeqAt.EqAt.int_bool a t' b
   | int b=>obtain ⟨t, rfl⟩:=rx; exact SeqAt.EqAt.int_int a t' b t
   | str b=>obtain ⟨t, rfl⟩:=rx; exact SeqAt.EqAt.int_str a t' b t
   | _=>exact absurd (show false = true from fx) Bool.false_ne_true
 | str a=>
   obtain ⟨t', rfl⟩:=ry
   cases x with
   | non=>cases rx; exact SeqAt.EqAt.str_none a t'
   | bl b=>cases rx; exact SeqAt.EqAt.str_bool a t' b
   | int b=>obtain ⟨t, rfl⟩:=rx; exact SeqAt.EqAt.str_int a t' b t
   | str b=>obtain ⟨t, rfl⟩:=rx; exact SeqAt.EqAt.str_str a t' b t
   | _=>exact absurd (show false = true from fx) Bool.false_ne_true
 | _=>exact absurd (show false = true from fy) Bool.false_ne_true
def eqU (x:V) (u:Value):Bool:=match u with
 | .none=>eqV .non x
 | .bool b=>eqV (.bl b) x
 | .int i _=>eqV (.int i) x
 | .str z _=>eqV (.str z) x
 | _=>false
theorem eqU_of {x y:V} {u:Value} (r:RelV y u) (f:flatV y = true):eqU x u = eqV y x:=by
 cases y with
 | non=>cases r; rfl
 | bl b=>cases r; rfl
 | int i=>obtain ⟨t, rfl⟩:=r; rfl
 | str z=>obtain ⟨t, rfl⟩:=r; rfl
 | _=>exact absurd (show false = true from f) Bool.false_ne_true
theorem any_eqU {x:V}:∀ {xs:List V} {us:List Value}, Vals xs us -> xs.all flatV = true -> us.any (eqU x) = xs.any fun y=>eqV y x
 | _, _, .nil, _=>rfl
 | y :: xs, u :: us, .cons r t, f=>by
   rw [List.all_cons, Bool.and_eq_true] at f
   rw [List.any_cons, List.any_cons, eqU_of r f.1, any_eqU t f.2]
theorem mem_eqAt {A:Around} {s:Shared} {x:V} {v:Value} (rx:RelV x v) (fx:flatV x = true):∀ {xs:List V} {us:List Value}, Vals xs us -> xs.all flatV = true -> ∀ u ∈ us, SeqAt.EqAt A s u v (eqU x u)
 | _, _, .nil, _=>fun u hu=>by cases hu
 | y :: xs, u :: us, .cons r t, f=>fun u' hu=>by
   rw [List.all_cons, Bool.and_eq_true] at f
   rcases List.mem_cons.mp hu with rfl | hu
   ·rw [eqU_of r f.1]; exact eqAt_V r rx f.1 fx
   ·exact mem_eqAt rx fx t f.2 u' hu
def inV (x:V) (xs:List V):Bool:=xs.any fun y=>eqV y x
def rIn (K:PySem.W.Frag) (neg:Bool):R2:=fun x y H Q=>∃ p xs, y = .ref p ∧ (SqL K H p xs ∨ SqT K H p xs) ∧ flatV x = true ∧ xs.all flatV = true ∧ Q (.bl (if neg then !inV x xs else inV x xs)) H
theorem op_in_seq:OpR X (compareOp .In) (rIn X.K false):=by
 intro pins s σ H x y v u Q I rx ry h
 obtain ⟨p, xs, rfl, hq, fx, fs, q⟩:=h
 cases ry
 rcases hq with hq | hq
 ·obtain ⟨its, r, pl, hz⟩:=I.list hq
  refine SeqAt.in_listAt (eqU x) pl.isList (fun w hw=>mem_eqAt rx fx r fs w (by simpa using hw)) ⟨.bl _, H, I, rfl, ?_⟩
  rw [show its.toArray.any (eqU x) = its.any (eqU x) by simp, any_eqU r fs]
  exact q
 ·obtain ⟨its, r, pl, hz⟩:=I.tuple hq
  refine SeqAt.in_tupleAt (eqU x) pl (fun w hw=>mem_eqAt rx fx r fs w (by simpa using hw)) ⟨.bl _, H, I, rfl, ?_⟩
  rw [show its.toArray.any (eqU x) = its.any (eqU x) by simp, any_eqU r fs]
  exact q
theorem call_len_seq:CallR X (.builtin "len") (fun xs H Q=>∃ p ys, xs = [.ref p] ∧ (SqL X.K H p ys ∨ SqT X.K H p ys) ∧ Q (.int ys.length) H):=by
 intro pins s σ H xs us Q I r h
 obtain ⟨p, ys, rfl, hq, q⟩:=h
 obtain ⟨u, rfl, rx⟩:=vals1 r
 cases rx
 have hn:=line63
 rcases hq with hq | hq
 ·obtain ⟨its, r', pl, hz⟩:=I.list hq
  have hlen:=r'.length
  exact Calls.call_len_list pl.isList (by simp only [List.size_toArray] <;> omega) ⟨.int ys.length, H, I.tok _, ⟨s.toks + 1, by rw [List.size_toArray, hlen]⟩, q⟩
 ·obtain ⟨its, r', pl, hz⟩:=I.tuple hq
  have hlen:=r'.length
  exact len_tuple pl (by simp only [List.size_toArray] <;> omega) ⟨.int ys.length, H, I.tok _, ⟨s.toks + 1, by rw [List.size_toArray, hlen]⟩, q⟩
theorem call_len_str:CallR X (.builtin "len") (fun xs H Q=>∃ z, xs = [.str z] ∧ z.length ≤ sizeLine ∧ Q (.int z.length) H):=by
 intro pins s σ H xs us Q I r h
 obtain ⟨z, rfl, hz, q⟩:=h
 obtain ⟨u, rfl, t, rfl⟩:=vals1 r
 have hn:=line63
 exact len_str (by omega) ⟨.int z.length, H, I.tok _, ⟨_, rfl⟩, q⟩
theorem call_list_of:CallR X (.type "list") (fun xs H Q=>∃ p ys, xs = [.ref p] ∧ (SqL X.K H p ys ∨ SqT X.K H p ys) ∧ ∀ l, H l = none -> Q (.ref l) (upd H l (.lst ys))):=by
 intro pins s σ H xs us Q I r h
 obtain ⟨p, ys, rfl, hq, q⟩:=h
 obtain ⟨u, rfl, rx⟩:=vals1 r
 cases rx
 have fin:∀ (its:List Value), Vals ys its -> ys.length ≤ sizeLine -> ∀ (h':Heap) (c':Nat), (∀ b o', s.heap.get? b = some o' -> h'.get? b = some o') ->
   h'.get? s.heap.objs.size = some { cls:=.type "list", dict:=none, data:=.seq its.toArray c', slots:=#[] } -> EP X pins σ Q (.ref s.heap.objs.size) { s with heap:=h' }:=fun its r' hz h' c' kp e=>
  ⟨.ref s.heap.objs.size, _, I.laid (t':=s.toks) kp (Nat.le_refl _) (show ObjOk X.prog X.w _ h' _ (.lst ys) from ⟨hz, its, c', r', e⟩), rfl, q _ (I.hok.fresh (Nat.le_refl _))⟩
 rcases hq with hq | hq
 ·obtain ⟨its, r', pl, hz⟩:=I.list hq
  have hlen:=r'.length
  obtain ⟨o, ho, hc, n, hd⟩:=pl.isList
  exact call_list_seq p (.inl rfl) ho hc hd (fun h' c' kp e=>fin its r' hz h' c' kp e) (by simp only [List.size_toArray] <;> omega)
 ·obtain ⟨its, r', pl, hz⟩:=I.tuple hq
  have hlen:=r'.length
  obtain ⟨o, ho, hc, n, hd⟩:=pl
  exact call_list_seq p (.inr rfl) ho hc hd (fun h' c' kp e=>fin its r' hz h' c' kp e) (by simp only [List.size_toArray] <;> omega)
def tyV (K:PySem.W.Frag) (T:String) (x:V) (H:Hp):Prop:=match x with
 | .str _=>T = "str"
 | .int _=>T = "int"
 | .ref p=>(T = "list" ∧ ∃ xs, SqL K H p xs) ∨ (T = "tuple" ∧ ∃ o, K.lookup p = some o ∧ o.cls = .type "tuple" ∧ o.dict = none) ∨
    (T = "dict" ∧ ((∃ kvs, H p = some (.dK kvs)) ∨ ∃ kvs, H p = some (.dT kvs))) ∨ (T = "set" ∧ ∃ S n, H p = some (.set S n))
 | _=>False
theorem tyV_is {pins:List (Addr × Obj)} {σ:St} {H:Hp} {s:Shared} {T:String} {x:V} {v:Value} (I:Inv X pins σ H s) (r:RelV x v) (ty:tyV X.K T x H) :
  s.TypeIs v T ∧ ∀ a, v = .ref a -> ∃ ob, s.heap.get? a = some ob ∧ ob.dict = none:=by
 cases x with
 | str z=>
   obtain ⟨t, rfl⟩:=r
   cases (show T = "str" from ty)
   exact ⟨typeIs_str s z t, fun _ e=>nomatch e⟩
 | int i=>
   obtain ⟨t, rfl⟩:=r
   cases (show T = "int" from ty)
   exact ⟨typeIs_int s i t, fun _ e=>nomatch e⟩
 | ref p=>
   cases r
   rcases ty with ⟨rfl, xs, hq⟩ | ⟨rfl, o, hk, hc, hd⟩ | ⟨rfl, hk⟩ | ⟨rfl, S, n, hk⟩
   ·obtain ⟨its, _, pl, _⟩:=I.list hq
    refine ⟨pl.isList.typeIs, fun a e=>?_⟩
    cases e
    obtain ⟨o, n, e, c, hd, _⟩:=pl
    exact ⟨o, e, hd⟩
   ·refine ⟨⟨o, I.kIn p o hk, hc⟩, fun a e=>?_⟩
    cases e
    exact ⟨o, I.kIn _ o hk, hd⟩
   ·have z:∃ o, s.heap.get? p = some o ∧ o.ExactDict:=by
     rcases hk with ⟨kvs, hk⟩ | ⟨kvs, hk⟩
     ·obtain ⟨_, _, _, _, o, _, _, e, ex, _⟩:=I.hok p _ hk
      exact ⟨o, e, ex⟩
     ·obtain ⟨_, _, _, _, o, _, _, e, ex, _⟩:=I.hok p _ hk
      exact ⟨o, e, ex⟩
    obtain ⟨o, e, ex⟩:=z
    refine ⟨⟨o, e, ex.1⟩, fun a e2=>?_⟩
    cases e2
    exact ⟨o, e, ex.2.1⟩
   ·obtain ⟨o, _, _, _, e, ex, _⟩:=I.hok p _ hk
    refine ⟨⟨o, e, ex.1⟩, fun a e2=>?_⟩
    cases e2
    exact ⟨o, e, ex.2.1⟩
 | _=>exact False.elim ty
def tBM0 (K:PySem.W.Frag) (T:String) (r:V -> List V -> Hp -> VK -> Prop) (to:TE):TE:=fun σ H Q=>to σ H fun x H1=>tyV K T x H1 ∧ r x [] H1 Q
def tBM (K:PySem.W.Frag) (T:String) (r:V -> List V -> Hp -> VK -> Prop) (to:TE) (t:TA):TE:=fun σ H Q=>to σ H fun x H1=>tyV K T x H1 ∧ t σ H1 fun xs H2=>r x xs H2 Q
variable {o e:Expr} {es:List Expr} {to:TE} {t:TA} {name:Str} {apos cpos:Pos} {T id:String} {r:V -> List V -> Hp -> VK -> Prop}
theorem pe_bm0 (pa:PlainAttrs T) (slot:Slot T name id) (hty:typeOf (.builtin id) = pure (.type "method_descriptor")) (hm:MtR X id r) (ho:PE X o to)
  (hbase:attributeBase o name X.env (eval o X.env) = eval o X.env:=by rfl) (hline:(apos.endLine == cpos.line) = true:=by rfl):PE X (.Call (.Attribute o name apos) [] [] cpos) (tBM0 X.K T r to):=by
 intro pins s σ H Q I h
 refine wpAny_Call_method0_late hbase hline (thn (ho pins s σ H _ I h) fun v s1 ⟨x, H1, I1, r1, ty, q1⟩=>?_)
 obtain ⟨h1, h2⟩:=tyV_is I1 r1 ty
 exact ⟨T, id, pa, slot, hty, h1, h2, Calls.callWith_builtin rfl (PySem.evalArgs_none (hm pins s1 σ H1 x [] v [] Q I1 r1 .nil q1))⟩
theorem pe_bm (pa:PlainAttrs T) (slot:Slot T name id) (hty:typeOf (.builtin id) = pure (.type "method_descriptor")) (hm:MtR X id r) (ho:PE X o to) (ha:PA X (e :: es) t)
  (hbase:attributeBase o name X.env (eval o X.env) = eval o X.env:=by rfl)
  (hfew:((backTo cpos (starEach (e :: es) X.env)).all (fun x=>!x.1) && (backToKw cpos (keywordEach [] X.env)).all (fun x=>x.1.isSome)
    && decide ((e :: es).length + ([]:List Keyword).length + (if ([]:List Keyword).isEmpty then 0 else 1) < 30)) = true:=by rfl)
  (hline:(apos.endLine == cpos.line) = true:=by rfl) (hs:starEach (e :: es) X.env = (false, eval e X.env) :: starEach es X.env:=by rfl) (hplain:(backTo cpos (starEach es X.env)).any (·.1) = false:=by rfl) :
  PE X (.Call (.Attribute o name apos) (e :: es) [] cpos) (tBM X.K T r to t):=by
 intro pins s σ H Q I h
 refine wpAny_Call_method_late hbase hfew hline rfl (thn (ho pins s σ H _ I h) fun v s1 ⟨x, H1, I1, r1, ty, q1⟩=>?_)
 obtain ⟨h1, h2⟩:=tyV_is I1 r1 ty
 refine ⟨T, id, pa, slot, hty, h1, h2, ?_⟩
 have hA:=ha cpos pins s1 σ H1 _ I1 q1
 rw [hs] at hA ⊢
 refine Calls.callWith_builtin (by show (false || (backTo cpos (starEach es X.env)).any (·.1)) = false; rw [hplain] <;> rfl) (Calls.evalArgs_plain ?_)
 exact thn hA fun us s2 ⟨vs, H2, I2, r2, q2⟩=>hm pins s2 σ H2 x vs v us Q I2 r1 r2 q2
end
end L2
namespace L2
open PySem PySem.Spec PyProof.Rows
def MtM (X:Cx) (id:String) (r:V -> List V -> Hp -> VK -> Prop):Prop:=
 ∀ (pins:List (Addr × Obj)) (s:Shared) (σ:St) (H:Hp) (x:V) (xs:List V) (v:Value) (us:List Value) (Q:VK), Inv X pins σ H s -> RelV x v -> Vals xs us -> r x xs H Q ->
  wpAny (model X.prog X.w) X.A (call (.builtin id) (v :: us)) (EP X pins σ Q) X.xe s
theorem Vals.one:∀ {x:V} {us:List Value}, Vals [x] us -> ∃ u, us = [u] ∧ RelV x u
 | _, _, .cons r .nil=>⟨_, rfl, r⟩
theorem Vals.zero:∀ {us:List Value}, Vals [] us -> us = []
 | _, .nil=>rfl
theorem Vals.dropLast {xs:List V} {us:List Value} (h:Vals xs us):Vals xs.dropLast us.dropLast:=by
 induction h with
 | nil=>exact .nil
 | cons r t ih=>
   cases t with
   | nil=>exact .nil
   | cons q t'=>exact .cons r ih
theorem erase_last {α:Type} (l:List α):l.eraseIdx (l.length - 1) = l.dropLast:=by
 induction l with
 | nil=>rfl
 | cons a r ih=>
   cases r with
   | nil=>rfl
   | cons b r=>
     have e:(a :: b :: r).length - 1 = ((b :: r).length - 1) + 1:=by
      have h1:(a :: b :: r).length = r.length + 2:=rfl
      have h2:(b :: r).length = r.length + 1:=rfl
      omega
     rw [e, List.eraseIdx_cons_succ, ih]
     all_goals rfl
section
variable {X:Cx} {pins:List (Addr × Obj)} {σ:St} {H:Hp} {s:Shared} {l b:Addr} {xs ys zs:List V}
theorem Inv.lset {its its':List Value} {n:Nat} {f:Array Value -> Array Value} {t':Nat} (I:Inv X pins σ H s) (hH:H l = some (.lst xs))
  (e:s.heap.get? l = some { cls:=.type "list", data:=.seq its.toArray n }) (hf:f its.toArray = its'.toArray) (hv:Vals ys its') (hz:ys.length ≤ sizeLine) :
  Inv X pins σ (upd H l (.lst ys)) { s with heap:=s.heap.update l (Obj.mapSeq f), toks:=t' }:=by
 have q:=PySem.IsL.update e f
 rw [hf] at q
 refine I.write (x:=l) (e:=l) (by rw [hH]; exact trivial) (.inl rfl) (fun b' u hb hu=>(Heap.get?_update_other s.heap (Obj.mapSeq f) (Ne.symm hb)).trans hu) ⟨_, q⟩ ?_
 exact ⟨hz, its', _, hv, q⟩
theorem Inv.lnew {its:List Value} {t':Nat} (I:Inv X pins σ H s) (hv:Vals ys its) (hz:ys.length ≤ sizeLine) :
  Inv X pins σ (upd H s.heap.objs.size (.lst ys)) { s with heap:=s.heap.push { cls:=.type "list", data:=.seq its.toArray }, toks:=t' }:=
 I.laid (fun _ _ q=>Heap.get?_push_of_some _ q) (Nat.le_refl _) ⟨hz, its, 0, hv, Heap.get?_push_size _ rfl⟩
theorem Inv.fresh (I:Inv X pins σ H s):H s.heap.objs.size = none:=I.hok.fresh (Nat.le_refl _)
theorem Inv.lstM (I:Inv X pins σ H s) (hH:H l = some (.lst xs)):xs.length ≤ sizeLine ∧ ∃ (its:List Value) (n:Nat), Vals xs its ∧ xs.length = its.length ∧ s.heap.get? l = some { cls:=.type "list", data:=.seq its.toArray n }:=by
 obtain ⟨z, its, n, r, e⟩:=I.hok l _ hH
 exact ⟨z, its, n, r, r.length, e⟩
end
section
variable {X:Cx}
def rAppend:V -> List V -> Hp -> VK -> Prop:=fun x vs H Q=>∃ l xs y, x = .ref l ∧ vs = [y] ∧ H l = some (.lst xs) ∧ xs.length < sizeLine ∧ Q .non (upd H l (.lst (xs ++ [y])))
theorem mt_append:MtM X "list.append" rAppend:=by
 intro pins s σ H x vs v us Q I rx rv h
 obtain ⟨l, xs, y, rfl, rfl, hH, hz, q⟩:=h
 cases rx
 obtain ⟨u, rfl, ru⟩:=rv.one
 obtain ⟨z, its, n, r, hl, e⟩:=I.lstM hH
 refine call_meets F.slot_list_append ⟨_, e, rfl⟩ F.entry_list_append (F.args_list_append_2 _ _) (PySem.list_append l its.toArray n u (by rw [List.size_toArray]; omega)) ⟨e, ?_⟩
 refine ⟨.non, _, I.lset (its':=its ++ [u]) hH e (by simp) (r.append (.cons ru .nil)) ?_, rfl, q⟩
 rw [List.length_append, List.length_singleton]
 omega
def rPop:V -> List V -> Hp -> VK -> Prop:=fun x vs H Q=>∃ l xs y, x = .ref l ∧ vs = [] ∧ H l = some (.lst xs) ∧ xs[xs.length - 1]? = some y ∧ Q y (upd H l (.lst xs.dropLast))
theorem mt_pop:MtM X "list.pop" rPop:=by
 intro pins s σ H x vs v us Q I rx rv h
 obtain ⟨l, xs, y, rfl, rfl, hH, hy, q⟩:=h
 cases rx
 have hus:=rv.zero
 subst hus
 obtain ⟨z, its, n, r, hl, e⟩:=I.lstM hH
 obtain ⟨u, hu, ru⟩:=r.get hy
 have hy':its.toArray[its.toArray.size - 1]? = some u:=by
  show its.toArray[its.length - 1]? = some u
  rw [← Array.getElem?_toList, ← hl]
  exact hu
 refine call_meets F.slot_list_pop ⟨_, e, rfl⟩ F.entry_list_pop (F.args_list_pop_1 _) (MeetsSeq.list_pop_last l its.toArray n u hy' (by rw [List.size_toArray]; omega)) ⟨e, ?_⟩
 refine ⟨y, _, I.lset (its':=its.dropLast) hH e ?_ r.dropLast ?_, ru, q⟩
 ·show its.toArray.eraseIdxIfInBounds (its.toArray.size - 1) = its.dropLast.toArray
  rw [List.size_toArray, List.eraseIdxIfInBounds_toArray, erase_last]
 ·rw [List.length_dropLast]
  omega
def rClear:V -> List V -> Hp -> VK -> Prop:=fun x vs H Q=>∃ l xs, x = .ref l ∧ vs = [] ∧ H l = some (.lst xs) ∧ Q .non (upd H l (.lst []))
theorem mt_clear:MtM X "list.clear" rClear:=by
 intro pins s σ H x vs v us Q I rx rv h
 obtain ⟨l, xs, rfl, rfl, hH, q⟩:=h
 cases rx
 have hus:=rv.zero
 subst hus
 obtain ⟨z, its, n, r, hl, e⟩:=I.lstM hH
 refine call_meets F.slot_list_clear ⟨_, e, rfl⟩ F.entry_list_clear (F.args_list_clear_1 _) (AutoSeq1.list_clear_list_0 l its.toArray n (by rw [List.size_toArray]; omega)) ⟨e, ?_⟩
 exact ⟨.non, _, I.lset (its':=[]) (ys:=[]) hH e rfl .nil (Nat.zero_le _), rfl, q⟩
def rCat:R2:=fun x y H Q=>∃ l b xs zs, x = .ref l ∧ y = .ref b ∧ H l = some (.lst xs) ∧ H b = some (.lst zs) ∧ xs.length + zs.length ≤ sizeLine ∧ ∀ p, H p = none -> Q (.ref p) (upd H p (.lst (xs ++ zs)))
theorem op_cat:OpR X (binaryOp .Add) rCat:=by
 intro pins s σ H x y v u Q I rx ry h
 obtain ⟨l, b, xs, zs, rfl, rfl, hH, hB, hz, q⟩:=h
 cases rx
 cases ry
 obtain ⟨z, its, n, r, hl, e⟩:=I.lstM hH
 obtain ⟨z2, its2, n2, r2, hl2, e2⟩:=I.lstM hB
 refine PySem.P.add_list e e2 ?_ (by rw [List.size_toArray, List.size_toArray]; omega)
 have ea:its.toArray ++ its2.toArray = (its ++ its2).toArray:=by simp
 rw [ea]
 exact ⟨.ref _, _, I.lnew (t':=s.toks) (r.append r2) (by rw [List.length_append]; omega), rfl, q _ I.fresh⟩
end
section
variable {prog:Program} {w:World} {A:Around} {E:Value -> Shared -> Prop} {s:Shared}
set_option maxRecDepth 100000 in
end
section
variable {X:Cx}
end
end L2
namespace L2
open PySem PySem.Spec PyProof.Rows
section
variable {κ:Type} [DecidableEq κ]
def valV (kvs:List (κ × V)) (k:κ):Option V:=(kvs.find? fun kv=>decide (kv.1 = k)).map (·.2)
def putK (kvs:List (κ × V)) (k:κ) (v:V):List (κ × V):=
 if (kvs.any fun kv=>decide (kv.1 = k)) = true then kvs.map (fun kv=>if kv.1 = k then (kv.1, v) else kv) else kvs ++ [(k, v)]
def dropK (kvs:List (κ × V)) (k:κ):List (κ × V):=kvs.filter fun kv=>decide (kv.1 ≠ k)
theorem valV_pos {p:κ × V} {r:List (κ × V)} {k:κ} (e:p.1 = k):valV (p :: r) k = some p.2:=by simp [valV, List.find?_cons, e]
theorem valV_neg {p:κ × V} {r:List (κ × V)} {k:κ} (e:¬ p.1 = k):valV (p :: r) k = valV r k:=by simp [valV, List.find?_cons, e]
theorem valV_any (k:κ):∀ kvs:List (κ × V), (kvs.any fun kv=>decide (kv.1 = k)) = (valV kvs k).isSome
 | []=>rfl
 | p :: r=>by
   rw [List.any_cons]
   by_cases e:p.1 = k
   ·simp only [valV_pos e, decide_eq_true e, Bool.true_or, Option.isSome_some]
   ·rw [valV_neg e, decide_eq_false e, Bool.false_or]; exact valV_any k r
theorem length_putK (kvs:List (κ × V)) (k:κ) (v:V):(putK kvs k v).length ≤ kvs.length + 1:=by
 unfold putK
 split
 ·rw [List.length_map]; omega
 ·rw [List.length_append, List.length_cons, List.length_nil]; omega
theorem putK_new {kvs:List (κ × V)} {k:κ} (v:V) (h:valV kvs k = none):putK kvs k v = kvs ++ [(k, v)]:=by
 unfold putK
 rw [valV_any, h]
 exact if_neg (by decide)
theorem RelO.isSome_eq {o:Option V} {u:Option Value} (r:RelO o u):o.isSome = u.isSome:=by
 cases o with
 | none=>cases u with
   | none=>rfl
   | some _=>exact (show False from r).elim
 | some _=>cases u with
   | none=>exact (show False from r).elim
   | some _=>rfl
theorem RelO.getD {o:Option V} {u:Option Value} {d:V} {d':Value} (r:RelO o u) (rd:RelV d d'):RelV (o.getD d) (u.getD d'):=by
 cases o with
 | none=>cases u with
   | none=>exact rd
   | some _=>exact (show False from r).elim
 | some _=>cases u with
   | none=>exact (show False from r).elim
   | some _=>exact r
theorem KV.val {kvs:List (κ × V)} {vs:List (κ × Value)} (r:KV kvs vs) (k:κ):RelO (valV kvs k) (valueAt vs k):=by
 unfold KV at r
 induction r with
 | nil=>exact True.intro
 | @cons p q ps qs h t ih=>
   obtain ⟨h1, h2⟩:=h
   by_cases e:p.1 = k
   ·have e':q.1 = k:=h1.symm.trans e
    have b:valueAt (q :: qs) k = some q.2:=by simp [valueAt, List.find?_cons, e']
    rw [valV_pos e, b]; exact h2
   ·have e':¬ q.1 = k:=fun z=>e (h1.trans z)
    have b:valueAt (q :: qs) k = valueAt qs k:=by simp [valueAt, List.find?_cons, e']
    rw [valV_neg e, b]; exact ih
theorem KV.any {kvs:List (κ × V)} {vs:List (κ × Value)} (r:KV kvs vs) (k:κ):(kvs.any fun kv=>decide (kv.1 = k)) = vs.any fun kv=>decide (kv.1 = k):=by
 unfold KV at r
 induction r with
 | nil=>rfl
 | cons h t ih=>rw [List.any_cons, List.any_cons, ih, h.1]
theorem KV.repl {kvs:List (κ × V)} {vs:List (κ × Value)} (r:KV kvs vs) (k:κ) {y:V} {u:Value} (ry:RelV y u) :
  KV (kvs.map fun kv=>if kv.1 = k then (kv.1, y) else kv) (vs.map fun kv=>if kv.1 = k then (kv.1, u) else kv):=by
 unfold KV at r ⊢
 induction r with
 | nil=>exact .nil
 | @cons p q ps qs h t ih=>
   rw [List.map_cons, List.map_cons]
   refine .cons ?_ ih
   obtain ⟨h1, h2⟩:=h
   by_cases e:p.1 = k
   ·rw [if_pos e, if_pos (h1.symm.trans e)]; exact ⟨h1, ry⟩
   ·rw [if_neg e, if_neg (fun z=>e (h1.trans z))]; exact ⟨h1, h2⟩
theorem KV.put {kvs:List (κ × V)} {vs:List (κ × Value)} (r:KV kvs vs) (k:κ) {y:V} {u:Value} (ry:RelV y u):KV (putK kvs k y) (stored vs k u):=by
 unfold putK stored
 rw [r.any k]
 by_cases e:(vs.any fun kv=>decide (kv.1 = k)) = true
 ·rw [if_pos e, if_pos e]; exact r.repl k ry
 ·rw [if_neg e, if_neg e]; exact Paired.snoc r ⟨rfl, ry⟩
theorem KV.drop {kvs:List (κ × V)} {vs:List (κ × Value)} (r:KV kvs vs) (k:κ):KV (dropK kvs k) (without vs k):=by
 unfold KV at r ⊢
 unfold dropK without
 induction r with
 | nil=>exact .nil
 | @cons p q ps qs h t ih=>
   obtain ⟨h1, h2⟩:=h
   rw [List.filter_cons, List.filter_cons]
   by_cases e:p.1 = k
   ·have a:¬ decide (p.1 ≠ k) = true:=by simp [e]
    have b:¬ decide (q.1 ≠ k) = true:=by simp [h1.symm.trans e]
    rw [if_neg a, if_neg b]; exact ih
   ·have e':¬ q.1 = k:=fun z=>e (h1.trans z)
    have a:decide (p.1 ≠ k) = true:=by simp [e]
    have b:decide (q.1 ≠ k) = true:=by simp [e']
    rw [if_pos a, if_pos b]; exact .cons ⟨h1, h2⟩ ih
theorem KV.length {kvs:List (κ × V)} {vs:List (κ × Value)} (r:KV kvs vs):kvs.length = vs.length:=Paired.length r
theorem dropK_le (kvs:List (κ × V)) (k:κ):(dropK kvs k).length ≤ kvs.length:=List.length_filter_le _ _
end
theorem kV_is {P:Program} {w:World} {k:Key} {u:Value} (r:RelV (kV k) u):(mixKind P w).is k u = true:=by
 cases k with
 | inl i=>obtain ⟨t, e⟩:=(show ∃ t, u = Value.int i t from r); subst e; exact mixKind_int P w i t
 | inr x=>obtain ⟨t, e⟩:=(show ∃ t, u = Value.str x t from r); subst e; exact mixKind_str P w x t
theorem items_are {P:Program} {w:World}:∀ {ks:List Key} {us:List Value}, Vals (ks.map kV) us -> ItemsAre (mixKind P w) ks us
 | [], _, r=>by rw [List.map_nil] at r; cases r; exact .nil
 | k :: ks, _, r=>by
   rw [List.map_cons] at r
   cases r with
   | cons h t=>exact .cons (kV_is h) (items_are t)
abbrev KT (H:Hp):List (List Key × V) -> List (List Key × Addr × Value) -> Prop:=Paired fun p q=>p.1 = q.1 ∧ H q.2.1 = some (.tup (p.1.map kV)) ∧ RelV p.2 q.2.2
theorem KT.val {H:Hp} {kvs:List (List Key × V)} {xs:List (List Key × Addr × Value)} (r:KT H kvs xs) (k:List Key):RelO (valV kvs k) ((atKey xs k).map (·.2)):=by
 induction r with
 | nil=>exact True.intro
 | @cons p q ps qs h t ih=>
   obtain ⟨h1, _, h2⟩:=h
   by_cases e:p.1 = k
   ·have e':q.1 = k:=h1.symm.trans e
    have b:atKey (q :: qs) k = some q.2:=by simp [atKey, List.find?_cons, e']
    rw [valV_pos e, b]; exact h2
   ·have e':¬ q.1 = k:=fun z=>e (h1.trans z)
    have b:atKey (q :: qs) k = atKey qs k:=by simp [atKey, List.find?_cons, e']
    rw [valV_neg e, b]; exact ih
theorem KT.repl {H:Hp} {kvs:List (List Key × V)} {xs:List (List Key × Addr × Value)} (r:KT H kvs xs) (k:List Key) {y:V} {u:Value} (ry:RelV y u) :
  KT H (kvs.map fun kv=>if kv.1 = k then (kv.1, y) else kv) (xs.map (putAt k u)):=by
 induction r with
 | nil=>exact .nil
 | @cons p q ps qs h t ih=>
   rw [List.map_cons, List.map_cons]
   refine .cons ?_ ih
   obtain ⟨h1, h2, h3⟩:=h
   unfold putAt
   by_cases e:p.1 = k
   ·rw [if_pos e, if_pos (h1.symm.trans e)]; exact ⟨h1, h2, ry⟩
   ·rw [if_neg e, if_neg (fun z=>e (h1.trans z))]; exact ⟨h1, h2, h3⟩
theorem KT.put {H:Hp} {kvs:List (List Key × V)} {xs:List (List Key × Addr × Value)} (r:KT H kvs xs) (k:List Key) {b:Addr} {y:V} {u:Value} (hb:H b = some (.tup (k.map kV))) (ry:RelV y u) :
  KT H (putK kvs k y) (storedH xs k b u):=by
 have e:(kvs.any fun kv=>decide (kv.1 = k)) = (atKey xs k).isSome:=by
  rw [valV_any, (r.val k).isSome_eq, Option.isSome_map]
 unfold putK storedH
 rw [e]
 by_cases q:(atKey xs k).isSome = true
 ·rw [if_pos q, if_pos q]; exact r.repl k ry
 ·rw [if_neg q, if_neg q]; exact Paired.snoc r ⟨rfl, hb, ry⟩
theorem KT.keeps {H H':Hp} {kvs:List (List Key × V)} {xs:List (List Key × Addr × Value)} (r:KT H kvs xs) (ht:∀ b ys, H b = some (.tup ys) -> H' b = some (.tup ys)):KT H' kvs xs:=
 Paired.mapP r fun _ _ z=>⟨z.1, ht _ _ z.2.1, z.2.2⟩
section
variable {P:Program} {w:World} {H:Hp} {h:Heap} {a:Addr}
theorem rd_of {u:HO} (ok:HOk P w H h) (e:Rd H a u):ObjOk P w H h a u:=e.ok ok
theorem dk_rd {kvs:List (Key × V)} (ok:HOk P w H h) (e:Rd H a (.dK kvs)):kvs.length ≤ sizeLine ∧ (a == sysModules) = false ∧ ∃ vs, KV kvs vs ∧ h.DictOf (mixKind P w) a vs:=
 show ObjOk P w H h a (.dK kvs) from rd_of ok e
theorem dk_of {kvs:List (Key × V)} (ok:HOk P w H h) (e:H a = some (.dK kvs)):kvs.length ≤ sizeLine ∧ (a == sysModules) = false ∧ ∃ vs, KV kvs vs ∧ h.DictOf (mixKind P w) a vs:=dk_rd ok (.inl e)
theorem key_of {ks:List Key} (ok:HOk P w H h) (e:H a = some (.tup (ks.map kV))):(tupleKind (mixKind P w)).is h ks a:=by
 obtain ⟨_, its, r, o, h1, h2, n, h3⟩:=(show ObjOk P w H h a (.tup (ks.map kV)) from ok a _ e)
 exact ⟨o, its.toArray, n, h1, h2, h3, by simpa using items_are r⟩
theorem dt_rd {kvs:List (List Key × V)} (ok:HOk P w H h) (e:Rd H a (.dT kvs)):kvs.length ≤ sizeLine ∧ (a == sysModules) = false ∧
  ∃ xs, KT H kvs xs ∧ h.DictOfH (tupleKind (mixKind P w)) a xs:=by
 obtain ⟨z, y, xs, r, o, es, ep, h1, h2, h3, h4, h5⟩:=(show ObjOk P w H h a (.dT kvs) from rd_of ok e)
 refine ⟨z, y, xs, r, o, es, ep, h1, h2, h3, h4, fun x hx=>?_, h5⟩
 have all:∀ {l:List (List Key × V)} {m:List (List Key × Addr × Value)}, KT H l m -> ∀ x ∈ m, (tupleKind (mixKind P w)).is h x.1 x.2.1:=by
  intro l m q
  induction q with
  | nil=>intro x hx; exact nomatch hx
  | @cons p q ps qs hq t ih=>
    intro x hx
    rcases List.mem_cons.mp hx with e | hx
    ·subst e
     exact key_of ok (by rw [← hq.1]; exact hq.2.1)
    ·exact ih x hx
 exact all r x hx
theorem dt_of {kvs:List (List Key × V)} (ok:HOk P w H h) (e:H a = some (.dT kvs)):kvs.length ≤ sizeLine ∧ (a == sysModules) = false ∧
  ∃ xs, KT H kvs xs ∧ h.DictOfH (tupleKind (mixKind P w)) a xs:=dt_rd ok (.inl e)
end
def DGet (H:Hp) (a:Addr) (y:V) (r:Option V):Prop:=
 (∃ kvs k, Rd H a (.dK kvs) ∧ y = kV k ∧ r = valV kvs k) ∨ ∃ kvs k b, Rd H a (.dT kvs) ∧ y = .ref b ∧ H b = some (.tup (k.map kV)) ∧ r = valV kvs k
def DPut (H:Hp) (a:Addr) (y v:V) (H':Hp):Prop:=
 (∃ kvs k, H a = some (.dK kvs) ∧ y = kV k ∧ kvs.length < sizeLine ∧ H' = upd H a (.dK (putK kvs k v))) ∨
 ∃ kvs k b, H a = some (.dT kvs) ∧ y = .ref b ∧ H b = some (.tup (k.map kV)) ∧ kvs.length < sizeLine ∧ H' = upd H a (.dT (putK kvs k v))
theorem DGet.k {H:Hp} {a:Addr} {kvs:List (Key × V)} {k:Key} (e:H a = some (.dK kvs)):DGet H a (kV k) (valV kvs k):=.inl ⟨kvs, k, .inl e, rfl, rfl⟩
theorem DPut.k {H:Hp} {a:Addr} {kvs:List (Key × V)} {k:Key} {v:V} (e:H a = some (.dK kvs)) (hl:kvs.length < sizeLine):DPut H a (kV k) v (upd H a (.dK (putK kvs k v))):=.inl ⟨kvs, k, e, rfl, hl, rfl⟩
section
variable {X:Cx} {pins:List (Addr × Obj)} {σ:St} {H:Hp} {s:Shared} {a:Addr} {y v:V} {u r:Value} {o:Option V} {A:Around} {E:Value -> Shared -> Prop}
theorem Inv.big (I:Inv X pins σ H s):sysModules < s.heap.objs.size:=by
 have h:mainGlobals < s.heap.objs.size:=(I.mod.glob.keeps I.bk).lt
 exact Nat.lt_trans (by decide) h
theorem d_getItem {Q:Value -> Shared -> Prop} (hu:A.units + 1 < cLine) (I:Inv X pins σ H s) (g:DGet H a y (some v)) (ry:RelV y u) (h:∀ w' s', Inv X pins σ H s' -> RelV v w' -> Q w' s') :
  wpAny (model X.prog X.w) A (getItem (.ref a) u) Q E s:=by
 rcases g with ⟨kvs, k, e, ey, l⟩ | ⟨kvs, k, b, e, ey, eb, l⟩
 ·subst ey
  obtain ⟨z, hd, vs, rel, dd⟩:=dk_rd I.hok e
  obtain ⟨w', hw, rw'⟩:=RelO.some_of (v:=v) (o:=valueAt vs k) (by rw [l]; exact rel.val k)
  exact wpAny_getItem_of (kV_is ry) dd.mapOf hw (h w' _ (I.tok _) rw')
 ·subst ey
  cases (show u = Value.ref b from ry)
  obtain ⟨z, hd, xs, rel, dd⟩:=dt_rd I.hok e
  obtain ⟨w', hw, rw'⟩:=RelO.some_of (v:=v) (o:=(atKey xs k).map (·.2)) (by rw [l]; exact rel.val k)
  obtain ⟨p, hp, hp2⟩:=Option.map_eq_some_iff.mp hw
  refine wpAny_getItem_heap (tupleKind_room_in1 hu) (key_of I.hok eb) dd hp ?_
  rw [hp2]
  exact h w' _ (I.tok _) rw'
theorem d_in {Q:Value -> Shared -> Prop} (hu:A.units + 1 < cLine) (I:Inv X pins σ H s) (g:DGet H a y o) (ry:RelV y u) (h:∀ s', Inv X pins σ H s' -> Q (.bool o.isSome) s') :
  wpAny (model X.prog X.w) A (compareOp .In u (.ref a)) Q E s:=by
 rcases g with ⟨kvs, k, e, ey, l⟩ | ⟨kvs, k, b, e, ey, eb, l⟩
 ·subst ey
  obtain ⟨z, hd, vs, rel, dd⟩:=dk_rd I.hok e
  refine wpAny_in_of (kV_is ry) hd dd.mapOf ?_
  rw [← (rel.val k).isSome_eq, ← l]
  exact h _ (I.tok _)
 ·subst ey
  cases (show u = Value.ref b from ry)
  obtain ⟨z, hd, xs, rel, dd⟩:=dt_rd I.hok e
  refine wpAny_in_heap (tupleKind_room_in1 hu) (key_of I.hok eb) hd dd ?_
  have q:=(rel.val k).isSome_eq
  rw [Option.isSome_map] at q
  rw [← q, ← l]
  exact h _ (I.tok _)
theorem d_write {h':Heap} {t':Nat} {ob:HO} (I:Inv X pins σ H s) (mu:Mut (H a)) (hs:Heap.SameBut a s.heap h') (he:∃ q, h'.get? a = some q) (new:ObjOk X.prog X.w (upd H a ob) h' a ob) :
  Inv X pins σ (upd H a ob) { s with heap:=h', toks:=t' }:=
 I.write (x:=a) (e:=a) mu (.inl rfl) (fun b q hb z=>(hs.2 b hb).trans z) he new
theorem dk_new {P:Program} {w:World} {H':Hp} {h':Heap} {kvs:List (Key × V)} {vs:List (Key × Value)} (z:kvs.length ≤ sizeLine) (hd:(a == sysModules) = false) (rel:KV kvs vs) (dd:h'.DictOf (mixKind P w) a vs) :
  ObjOk P w H' h' a (.dK kvs):=⟨z, hd, vs, rel, dd⟩
theorem d_setItem {H':Hp} {Q:Unit -> Shared -> Prop} (hu:A.units + 1 < cLine) (I:Inv X pins σ H s) (g:DPut H a y v H') (ry:RelV y u) (rv:RelV v r) (h:∀ s', Inv X pins σ H' s' -> Q () s') :
  wpAny (model X.prog X.w) A (setItem (.ref a) u r) Q E s:=by
 rcases g with ⟨kvs, k, e, ey, l, eH⟩ | ⟨kvs, k, b, e, ey, eb, l, eH⟩
 ·subst ey eH
  obtain ⟨z, hd, vs, rel, dd⟩:=dk_of I.hok e
  have hz:vs.length ≤ sizeLine:=by rw [← rel.length]; exact z
  have hl:(putK kvs k v).length ≤ sizeLine:=by have:=length_putK kvs k v; omega
  refine wpAny_setItem_pairs (hsz:=hz) (kV_is ry) dd fun h' dd' hs=>h _ ?_
  have he:∃ q, h'.get? a = some q:=let ⟨q, _, _, hq, _⟩:=dd'; ⟨q, hq⟩
  exact d_write I (by rw [e]; exact True.intro) hs he (dk_new hl hd (rel.put k rv) dd')
 ·subst ey eH
  cases (show u = Value.ref b from ry)
  obtain ⟨z, hd, xs, rel, dd⟩:=dt_of I.hok e
  have hz:xs.length ≤ sizeLine:=by rw [← Paired.length rel]; exact z
  have hl:(putK kvs k v).length ≤ sizeLine:=by have:=length_putK kvs k v; omega
  refine wpAny_setItem_heap (hsz:=hz) (tupleKind_room_in1 hu) (key_of I.hok eb) dd fun h' dd' hs=>h _ ?_
  obtain ⟨q, es, ep, hq, h2, h3, h4, _, h5⟩:=dd'
  refine d_write I (by rw [e]; exact True.intro) hs ⟨q, hq⟩ ⟨hl, hd, _, (rel.put k eb rv).keeps fun c ys ec=>?_, q, es, ep, hq, h2, h3, h4, h5⟩
  rw [upd_ne (ne_of ec e (fun z=>nomatch z))]
  exact ec
end
section
variable {X:Cx} {pins:List (Addr × Obj)} {σ:St} {H:Hp} {s:Shared} {a:Addr} {kvs:List (Key × V)} {k:Key} {u:Value} {A:Around} {E:Value -> Shared -> Prop}
theorem d_pop {v:V} {more:List Value} {Q:Value -> Shared -> Prop} (I:Inv X pins σ H s) (e:H a = some (.dK kvs)) (ry:RelV (kV k) u) (l:valV kvs k = some v) (hm:more = [] ∨ ∃ x, more = [x])
  (h:∀ w' s', Inv X pins σ (upd H a (.dK (dropK kvs k))) s' -> RelV v w' -> Q w' s'):wpAny (model X.prog X.w) A (call (.builtin "dict.pop") (.ref a :: u :: more)) Q E s:=by
 obtain ⟨z, hd, vs, rel, dd⟩:=dk_of I.hok e
 obtain ⟨w', hw, rw'⟩:=RelO.some_of (v:=v) (o:=valueAt vs k) (by rw [← l]; exact rel.val k)
 have hp:(keyPart u).isSome = true:=by
  cases k with
  | inl i=>obtain ⟨t, q⟩:=(show ∃ t, u = Value.int i t from ry); subst q; rfl
  | inr x=>obtain ⟨t, q⟩:=(show ∃ t, u = Value.str x t from ry); subst q; rfl
 have ha:argsOk "dict.pop" ⟨.ref a :: u :: more, []⟩:=by
  rcases hm with q | ⟨x, q⟩
  ·subst q; exact PySem.F.args_dict_pop_2 _ _
  ·subst q; exact PySem.F.args_dict_pop_3 _ _ _
 refine call_meetsIn PySem.F.slot_dict_pop dd.typeIs PySem.F.entry_dict_pop ha (meets_dict_pop_there (mixKind X.prog X.w) a (kV_is ry) more hm hp)
  ⟨vs, w', dd, by rw [← rel.length]; exact z, hw, fun h' dd' hs=>h w' _ ?_ rw'⟩
 have he:∃ q, h'.get? a = some q:=let ⟨q, _, _, hq, _⟩:=dd'; ⟨q, hq⟩
 exact d_write I (by rw [e]; exact True.intro) hs he (dk_new (Nat.le_trans (dropK_le kvs k) z) hd (rel.drop k) dd')
theorem d_len {Q:Value -> Shared -> Prop} (I:Inv X pins σ H s) (e:Rd H a (.dK kvs)) (h:∀ t s', Inv X pins σ H s' -> Q (.int kvs.length t) s'):wpAny (model X.prog X.w) A (call (.builtin "len") [.ref a]) Q E s:=by
 obtain ⟨z, hd, vs, rel, dd⟩:=dk_rd I.hok e
 refine call_len_dict hd dd (by rw [← rel.length]; rw [sizeLine_eq] at z; omega) ?_
 rw [← rel.length]
 exact h _ _ (I.tok _)
end
def NoSl (i:Expr):Prop:=∀ ov iv, subscripted i false ov iv = operate [ov, iv] (getItem ov iv)
theorem subD_of {prog:Program} {w:World} {A:Around} {E:Value -> Shared -> Prop} {s:Shared} {env:Env} {value slice:Expr} {pos:Pos} {T id:String} {Q:Value -> Shared -> Prop}
  (hl:typeLookup (.type T) "__getitem__" = pure (some (.builtin id))) (hs:NoSl slice)
  (h:wpAny (model prog w) A (eval value env) (fun o s₁=>wpAny (model prog w) A (eval slice env) (fun i s₂=>s₂.TypeIs o T ∧ wpAny (model prog w) A (getItem o i) Q E s₂) E s₁) E s) :
  wpAny (model prog w) A (eval (.Subscript value slice pos) env) Q E s:=by
 refine Subscript_ (wpAny_mono h (fun o s₁ h₁=>wpAny_mono h₁ (fun i s₂ h₂=>?_) fun _ _ x=>x) fun _ _ x=>x)
 obtain ⟨hT, h₂⟩:=h₂
 unfold subscriptTail
 refine wpAny_bind ?_
 rw [getitemInPython_of_ne hT.not_modules]
 refine wpAny_bind (wpAny_specialOf hT hl ?_)
 have fin:wpAny (model prog w) A (subscripted slice false o i) (fun r s₃=>wpAny (model prog w) A (letTemporaryGo value o r >>= fun _=>pure r) Q E s₃) E s₂:=by
  rw [hs o i]
  exact wpAny_operating (wpAny_mono h₂ (fun r s₃ h₃=>wpAny_bind (wpAny_letTemporaryGo (wpAny_pure h₃))) fun _ _ x=>x)
 first
  | exact wpAny_pure (wpAny_bind fin)
  | exact wpAny_bind (wpAny_pure (wpAny_bind fin))
  | exact wpAny_bind fin
theorem dict_typeIs {X:Cx} {pins:List (Addr × Obj)} {σ:St} {H:Hp} {s:Shared} {a:Addr} {y:V} {o:Option V} (I:Inv X pins σ H s) (g:DGet H a y o):s.TypeIs (.ref a) "dict":=by
 rcases g with ⟨kvs, k, e, _, _⟩ | ⟨kvs, k, b, e, _, _, _⟩
 ·obtain ⟨_, _, vs, _, dd⟩:=dk_rd I.hok e
  exact dd.typeIs
 ·obtain ⟨_, _, xs, _, dd⟩:=dt_rd I.hok e
  exact dd.typeIs
def tDGet (td ty:TE):TE:=fun σ H Q=>td σ H fun x H1=>ty σ H1 fun y H2=>∃ a v, x = .ref a ∧ DGet H2 a y (some v) ∧ Q v H2
def tDIn (ty td:TE):TE:=fun σ H Q=>ty σ H fun y H1=>td σ H1 fun x H2=>∃ a o, x = .ref a ∧ DGet H2 a y o ∧ Q (.bl o.isSome) H2
def sDPut (td ty tv:TE):TS:=fun D σ H=>tv σ H fun v H1=>td σ H1 fun x H2=>ty σ H2 fun y H3=>∃ a H4, x = .ref a ∧ DPut H3 a y v H4 ∧ D.nx σ H4
section
variable {X:Cx} {o i e value:Expr} {pos pos' tpos:Pos} {td ty tv:TE}
theorem pe_dget (hu:X.A.units + 1 < cLine) (ho:PE X o td) (hi:PE X i ty) (hs:NoSl i):PE X (.Subscript o i pos) (tDGet td ty):=by
 intro pins s σ H Q I h
 refine subD_of PySem.F.slot_dict_getitem.lookup hs (thn (ho pins s σ H _ I h) fun u s1 ⟨x, H1, I1, rx, q1⟩=>thn (hi pins s1 σ H1 _ I1 q1) fun iv s2 ⟨y, H2, I2, ry, a, v, ex, g, q2⟩=>?_)
 subst ex
 obtain rfl:u = Value.ref a:=rx
 exact ⟨dict_typeIs I2 g, d_getItem hu I2 g ry fun w' s3 I3 rw'=>⟨v, H2, I3, rw', q2⟩⟩
theorem pc_din (hu:X.A.units + 1 < cLine) (hi:PE X i ty) (ho:PE X o td):PC X .In i o (tDIn ty td):=by
 intro pins s σ H Q I h
 refine thn (hi pins s σ H _ I h) fun iv s1 ⟨y, H1, I1, ry, q1⟩=>thn (ho pins s1 σ H1 _ I1 q1) fun u s2 ⟨x, H2, I2, rx, a, ov, ex, g, q2⟩=>?_
 subst ex
 obtain rfl:u = Value.ref a:=rx
 exact d_in hu I2 g ry fun s3 I3=>⟨.bl ov.isSome, H2, I3, rfl, q2⟩
theorem ps_dput (hu:X.A.units + 1 < cLine) (ho:PE X o td) (hi:PE X i ty) (hv:PE X value tv) (hs:swapsWith value (some (.Subscript o i pos')) pos.line X.env = pure false) :
  PS X (.Assign [.Subscript o i pos'] value pos) (sDPut td ty tv):=by
 intro pins s σ H D I h
 refine wpAny_Assign_Subscript (thn (hv pins s σ H _ I h) fun r s1 ⟨v, H1, I1, rv, q1⟩=>thn (ho pins s1 σ H1 _ I1 q1) fun u s2 ⟨x, H2, I2, rx, q2⟩=>thn (hi pins s2 σ H2 _ I2 q2) fun iv s3 ⟨y, H3, I3, ry, a, H4, ex, g, q3⟩=>?_) hs
 subst ex
 obtain rfl:u = Value.ref a:=rx
 exact d_setItem hu I3 g ry rv fun s4 I4=>⟨σ, H4, I4, q3⟩
end
theorem dk_empty {P:Program} {w:World} {H:Hp} (h:Heap) (hb:sysModules < h.objs.size):ObjOk P w H (h.push { cls:=.type "dict", data:=.dict #[] }) h.objs.size (.dK []):=
 ⟨Nat.zero_le _, beq_eq_false_iff_ne.mpr (Ne.symm (Nat.ne_of_lt hb)), [], .nil, Heap.DictOf.new h⟩
def tDNewK:TE:=fun _ H Q=>∀ p, H p = none -> Q (.ref p) (upd H p (.dK []))
section
variable {X:Cx} {pos:Pos}
theorem pe_dnewK:PE X (.Dict [] [] pos) tDNewK:=fun pins s σ H Q I h=>
 wpAny_Dict_empty ⟨.ref s.heap.objs.size, _, I.laid (a:=s.heap.objs.size) (o:=.dK []) (t':=s.toks) (fun _ _ q=>Heap.get?_push_of_some _ q) (Nat.le_refl _) (dk_empty s.heap I.big), rfl, h _ (I.hok.fresh (Nat.le_refl _))⟩
end
structure M1 (X:Cx) (o:Expr) (m:Str) (apos:Pos) (e:Expr) (cpos:Pos):Prop where
 base:attributeBase o m X.env (eval o X.env) = eval o X.env
 few:((backTo cpos (starEach [e] X.env)).all (fun x=>!x.1) && (backToKw cpos (keywordEach [] X.env)).all (fun x=>x.1.isSome)
  && decide (([e]:List Expr).length + ([]:List Keyword).length + (if ([]:List Keyword).isEmpty then 0 else 1) < 30)) = true
 line:(apos.endLine == cpos.line) = true
 trees:backTo cpos (starEach [e] X.env) = [(false, eval e X.env)]
structure M2 (X:Cx) (o:Expr) (m:Str) (apos:Pos) (e f:Expr) (cpos:Pos):Prop where
 base:attributeBase o m X.env (eval o X.env) = eval o X.env
 few:((backTo cpos (starEach [e, f] X.env)).all (fun x=>!x.1) && (backToKw cpos (keywordEach [] X.env)).all (fun x=>x.1.isSome)
  && decide (([e, f]:List Expr).length + ([]:List Keyword).length + (if ([]:List Keyword).isEmpty then 0 else 1) < 30)) = true
 line:(apos.endLine == cpos.line) = true
 trees:backTo cpos (starEach [e, f] X.env) = [(false, eval e X.env), (false, eval f X.env)]
def IsD (H:Hp) (a:Addr):Prop:=(∃ kvs, Rd H a (.dK kvs)) ∨ ∃ kvs, Rd H a (.dT kvs)
theorem isD_at {X:Cx} {pins:List (Addr × Obj)} {σ:St} {H:Hp} {s:Shared} {a:Addr} (I:Inv X pins σ H s) (d:IsD H a) :
  s.TypeIs (.ref a) "dict" ∧ (∀ b, Value.ref a = .ref b -> ∃ ob, s.heap.get? b = some ob ∧ ob.dict = none) ∧ (a == sysModules) = false:=by
 rcases d with ⟨kvs, e⟩ | ⟨kvs, e⟩
 ·obtain ⟨_, hd, vs, _, dd⟩:=dk_rd I.hok e
  refine ⟨dd.typeIs, fun b q=>?_, hd⟩
  cases q
  obtain ⟨ob, _, _, h1, h2, _⟩:=dd
  exact ⟨ob, h1, h2.2.1⟩
 ·obtain ⟨_, hd, xs, _, dd⟩:=dt_rd I.hok e
  refine ⟨dd.typeIs, fun b q=>?_, hd⟩
  cases q
  obtain ⟨ob, _, _, h1, h2, _⟩:=dd
  exact ⟨ob, h1, h2.2.1⟩
section
variable {X:Cx} {pins:List (Addr × Obj)} {σ:St} {H:Hp} {s:Shared} {a:Addr} {y d:V} {u r:Value} {o:Option V} {A:Around} {E:Value -> Shared -> Prop}
theorem d_get1 {Q:Value -> Shared -> Prop} (hu:A.units + 1 < cLine) (I:Inv X pins σ H s) (g:DGet H a y o) (ry:RelV y u) (h:∀ w' s', Inv X pins σ H s' -> RelV (o.getD .non) w' -> Q w' s') :
  wpAny (model X.prog X.w) A (call (.builtin "dict.get") [.ref a, u]) Q E s:=by
 rcases g with ⟨kvs, k, e, ey, l⟩ | ⟨kvs, k, b, e, ey, eb, l⟩
 ·subst ey
  obtain ⟨z, hd, vs, rel, dd⟩:=dk_rd I.hok e
  refine call_meetsIn PySem.F.slot_dict_get dd.typeIs PySem.F.entry_dict_get (PySem.F.args_dict_get_2 _ _) (meets_dict_get (mixKind X.prog X.w) a (kV_is ry) hd) ⟨_, dd.mapOf, h _ _ (I.tok _) ?_⟩
  rw [l]
  exact (rel.val k).getD rfl
 ·subst ey
  cases (show u = Value.ref b from ry)
  obtain ⟨z, hd, xs, rel, dd⟩:=dt_rd I.hok e
  refine call_meetsIn PySem.F.slot_dict_get dd.typeIs PySem.F.entry_dict_get (PySem.F.args_dict_get_2 _ _) (meetsH_dict_get (tupleKind (mixKind X.prog X.w)) a b hd) ⟨tupleKind_room_in1 hu, k, xs, key_of I.hok eb, dd, h _ _ (I.tok _) ?_⟩
  rw [l]
  exact (rel.val k).getD rfl
theorem d_get2 {Q:Value -> Shared -> Prop} (hu:A.units + 1 < cLine) (I:Inv X pins σ H s) (g:DGet H a y o) (ry:RelV y u) (rd:RelV d r) (h:∀ w' s', Inv X pins σ H s' -> RelV (o.getD d) w' -> Q w' s') :
  wpAny (model X.prog X.w) A (call (.builtin "dict.get") [.ref a, u, r]) Q E s:=by
 rcases g with ⟨kvs, k, e, ey, l⟩ | ⟨kvs, k, b, e, ey, eb, l⟩
 ·subst ey
  obtain ⟨z, hd, vs, rel, dd⟩:=dk_rd I.hok e
  refine call_meetsIn PySem.F.slot_dict_get dd.typeIs PySem.F.entry_dict_get (PySem.F.args_dict_get_3 _ _ _) (meets_dict_get_default (mixKind X.prog X.w) a (kV_is ry) hd r) ⟨_, dd.mapOf, h _ _ (I.tok _) ?_⟩
  rw [l]
  exact (rel.val k).getD rd
 ·subst ey
  cases (show u = Value.ref b from ry)
  obtain ⟨z, hd, xs, rel, dd⟩:=dt_rd I.hok e
  refine call_meetsIn PySem.F.slot_dict_get dd.typeIs PySem.F.entry_dict_get (PySem.F.args_dict_get_3 _ _ _) (meetsH_dict_get_default (tupleKind (mixKind X.prog X.w)) a b hd r) ⟨tupleKind_room_in1 hu, k, xs, key_of I.hok eb, dd, h _ _ (I.tok _) ?_⟩
  rw [l]
  exact (rel.val k).getD rd
end
def tDGet1 (td ty:TE):TE:=fun σ H Q=>td σ H fun x H1=>∃ a, x = .ref a ∧ IsD H1 a ∧ ty σ H1 fun y H2=>∃ o, DGet H2 a y o ∧ Q (o.getD .non) H2
def tDGet2 (td ty tx:TE):TE:=fun σ H Q=>td σ H fun x H1=>∃ a, x = .ref a ∧ IsD H1 a ∧ ty σ H1 fun y H2=>tx σ H2 fun z H3=>∃ o, DGet H3 a y o ∧ Q (o.getD z) H3
def tDPop1 (td ty:TE):TE:=fun σ H Q=>td σ H fun x H1=>∃ a, x = .ref a ∧ IsD H1 a ∧ ty σ H1 fun y H2=>∃ kvs k v, H2 a = some (.dK kvs) ∧ y = kV k ∧ valV kvs k = some v ∧ Q v (upd H2 a (.dK (dropK kvs k)))
section
variable {X:Cx} {o e f:Expr} {apos cpos:Pos} {td ty tx:TE}
theorem pe_dget1 (hu:X.A.units + 1 < cLine) (ho:PE X o td) (he:PE X e ty) (m:M1 X o "get" apos e cpos):PE X (.Call (.Attribute o "get" apos) [e] [] cpos) (tDGet1 td ty):=by
 intro pins s σ H Q I h
 refine wpAny_Call_method m.base m.few m.line PySem.F.plainAttrs_dict PySem.F.slot_dict_get PySem.F.type_dict_get (thn (ho pins s σ H _ I h) fun u s1 ⟨x, H1, I1, rx, a, ex, d, q1⟩=>?_)
 subst ex
 obtain rfl:u = Value.ref a:=rx
 obtain ⟨t1, t2, _⟩:=isD_at I1 d
 refine ⟨t1, t2, ?_⟩
 rw [m.trees]
 refine Calls.callWith_builtin rfl (Calls.evalArgs_plain (Calls.spliced_cons (thn (he pins s1 σ H1 _ I1 q1) fun iv s2 ⟨y, H2, I2, ry, ov, g, q2⟩=>Calls.spliced_nil ?_)))
 exact d_get1 hu I2 g ry fun w' s3 I3 rw'=>⟨_, H2, I3, rw', q2⟩
theorem pe_dget2 (hu:X.A.units + 1 < cLine) (ho:PE X o td) (he:PE X e ty) (hf:PE X f tx) (m:M2 X o "get" apos e f cpos):PE X (.Call (.Attribute o "get" apos) [e, f] [] cpos) (tDGet2 td ty tx):=by
 intro pins s σ H Q I h
 refine wpAny_Call_method m.base m.few m.line PySem.F.plainAttrs_dict PySem.F.slot_dict_get PySem.F.type_dict_get (thn (ho pins s σ H _ I h) fun u s1 ⟨x, H1, I1, rx, a, ex, d, q1⟩=>?_)
 subst ex
 obtain rfl:u = Value.ref a:=rx
 obtain ⟨t1, t2, _⟩:=isD_at I1 d
 refine ⟨t1, t2, ?_⟩
 rw [m.trees]
 refine Calls.callWith_builtin rfl (Calls.evalArgs_plain (Calls.spliced_cons (thn (he pins s1 σ H1 _ I1 q1) fun iv s2 ⟨y, H2, I2, ry, q2⟩=>
  Calls.spliced_cons (thn (hf pins s2 σ H2 _ I2 q2) fun fv s3 ⟨z, H3, I3, rz, ov, g, q3⟩=>Calls.spliced_nil ?_))))
 exact d_get2 hu I3 g ry rz fun w' s4 I4 rw'=>⟨_, H3, I4, rw', q3⟩
theorem pe_dpop1 (ho:PE X o td) (he:PE X e ty) (m:M1 X o "pop" apos e cpos):PE X (.Call (.Attribute o "pop" apos) [e] [] cpos) (tDPop1 td ty):=by
 intro pins s σ H Q I h
 refine wpAny_Call_method m.base m.few m.line PySem.F.plainAttrs_dict PySem.F.slot_dict_pop PySem.F.type_dict_pop (thn (ho pins s σ H _ I h) fun u s1 ⟨x, H1, I1, rx, a, ex, d, q1⟩=>?_)
 subst ex
 obtain rfl:u = Value.ref a:=rx
 obtain ⟨t1, t2, _⟩:=isD_at I1 d
 refine ⟨t1, t2, ?_⟩
 rw [m.trees]
 refine Calls.callWith_builtin rfl (Calls.evalArgs_plain (Calls.spliced_cons (thn (he pins s1 σ H1 _ I1 q1) fun iv s2 ⟨y, H2, I2, ry, kvs, k, v, ea, ey, l, q2⟩=>Calls.spliced_nil ?_)))
 subst ey
 exact d_pop I2 ea ry l (.inl rfl) fun w' s3 I3 rw'=>⟨v, _, I3, rw', q2⟩
end
section
variable {X:Cx} {pins:List (Addr × Obj)} {σ:St} {H:Hp} {s:Shared} {a:Addr} {kvs:List (Key × V)} {A:Around} {E:Value -> Shared -> Prop}
end
section
variable {X:Cx} {pins:List (Addr × Obj)} {σ:St} {H:Hp} {s:Shared} {a:Addr} {y:V} {u:Value} {A:Around} {E:Value -> Shared -> Prop}
end
end L2
namespace Att
open PySem PySem.W PySem.Calls PyProof.Rows
theorem ints_of_wellAll {P:Params} {h:Heap}:∀ (ns:List Int) (vs:List Value), WellAll P h vs (ns.map WData.int) -> IntsAre vs ns:=by
 intro ns
 induction ns with
 | nil=>
   intro vs w
   rw [List.map_nil] at w
   cases w
   exact .nil
 | cons n ns ih=>
   intro vs w
   rw [List.map_cons] at w
   cases w with
   | cons a b=>
     cases a
     exact .cons _ _ (ih _ b)
theorem script_of {l:OpenLaw} {n:Nat} (hn:l.most = some n) {P:Params} {h:Heap} {args:List WData} {vals:List Value}
  (hpre:l.row.toRowW.claim.pre args = true) (hwl:WellAll P h vals args) :
  ∃ a vs ns, vals = [Value.ref a] ∧ args = [WData.list (ns.map WData.int)] ∧ h.get? a = some { cls:=.type "list", data:=.seq vs.toArray } ∧ IntsAre vs ns ∧ ns.length ≤ n:=by
 have hsh:WShape.hasAll [] args [.list .int] = true:=(pre_splitW hpre).1
 have hc:l.pre.holds [] { args:=args } = true:=(pre_splitW hpre).2
 obtain ⟨d, r, rfl, h1, h2⟩:=hasAllW_cons hsh
 obtain rfl:=hasAllW_nil h2
 obtain ⟨xs, rfl, h3⟩:=hasW_list h1
 obtain ⟨ns, rfl⟩:=items_int h3
 have hlen:ns.length ≤ n:=by
  unfold OpenLaw.pre at hc
  have h4:(WTm.not (.lt (.lit (.int (n:Int))) (.len (.arg 0)))).holds [] { args:=[.list (ns.map .int)] } = true:=by
   have h4:=(holds_andW hc).1
   rw [hn] at h4
   exact h4
  have h5:=condW_of h4 (w_not (w_lt w_lit (w_len_list (w_arg rfl))))
  rw [List.length_map] at h5
  refine Nat.le_of_not_lt fun q=>?_
  have q':(n:Int) < ((ns.length:Nat):Int):=by omega
  first
   | (rw [decide_eq_true q'] at h5; exact absurd h5 (by decide))
   | (simp at h5; omega)
 cases hwl with
 | cons w1 w2=>
   cases w2
   cases w1 with
   | list ho hall=>exact ⟨_, _, ns, rfl, rfl, ho, ints_of_wellAll ns _ hall, hlen⟩
theorem post_true (l:OpenLaw) (args:List WData):l.row.toRowW.claim.post args (.bool true) args = true:=
 postW_of (r:=l.row.toRowW) (X:=(true == true))
  (show WShape.has [] (.bool true) .bool = true by first | rfl | decide | simp [WShape.has, WShape.arms, WShape.armsAll])
  (show (WTm.eq .res (.lit (.bool true))).value [] { args:=args, res:=some (.bool true), after:=args } = some (.bool (true == true)) from w_eq_bool (w_res rfl) w_lit) rfl
theorem attach_call {l:OpenLaw} {n:Nat} {q:Program} {loose:List Str} {XP:(Str -> Option Value) -> Heap -> Prop} {YP:World -> Heap -> Prop} {d:DefRec}
  (hn:l.most = some n) (hdf:d.params.defaults = [])
  (call:∀ (w:World) (s₀ s₁:Shared) (mg mb:Str -> Option Value) (fa:Addr) (o:Obj) (pm cd doc:Value) (a:Addr) (vs:List Value) (ns:List Int),
    Ground q loose [] XP w s₀ mg mb s₁.heap -> YP w s₁.heap ->
    s₁.heap.get? fa = some o -> o.data = .func (docDef d.name d.params d.body d.scope pm cd doc) -> s₁.heap.CodeRec cd d.name -> mg d.name = some (.ref fa) ->
    s₁.heap.get? a = some { cls:=.type "list", data:=.seq vs.toArray } -> IntsAre vs ns -> ns.length ≤ n -> s₁.gens = #[] ->
    codeAny (model l.prog w) callerA (.call (.ref fa) ⟨[.ref a], []⟩) (fun r s'=>r = .ok (.ret (.bool true)) ∧ OldK s₁.heap s'.heap ∧ s'.os = s₁.os ∧ AllBare s'.gens) s₁) :
  WalkO q loose XP YP l.row.toRowW d [] (fun f vs=>PySem.call f vs):=by
 intro w s₀ s₁ mg mb G Y fa o pm cd doc dV kV ho hd hcd hD hmg hg args vals as hpre hlay hrd hwl hlo
 obtain rfl:dV = .none:=Dflts.none hD hdf
 obtain rfl:kV = .none:=Dflts.noKw hD
 obtain ⟨a, vs, ns, rfl, rfl, hobj, hints, hlen⟩:=script_of hn hpre hwl
 refine enter_call (codeAny_mono (call w s₀ s₁ mg mb fa o pm cd doc a vs ns G Y ho (fd_plain hd) hcd hmg hobj hints hlen hg) fun r s' hq=>?_)
 obtain ⟨rfl, h2, h3, h4⟩:=hq
 exact ⟨.inl ⟨.bool true, .bool true, [], rfl, fun _=>rfl, .bool true, post_true l _, fun _=>⟨List.Pairwise.nil, fun _ hm=>(nomatch hm)⟩⟩, h2, h3, h4⟩
section
variable {prog:Program} {w:World} {A:Around} {E:Value -> Shared -> Prop} {s:Shared} {K:Frag}
end
end Att
namespace L2
open PySem PySem.Spec PyProof.Rows
theorem vals_ints:∀ {vs:List Value} {ns:List Int}, IntsAre vs ns -> Vals (ns.map V.int) vs
 | _, _, .nil=>.nil
 | _, _, .cons n t h=>.cons ⟨t, rfl⟩ (vals_ints h)
def Only (H:Hp):Prop:=∀ b, H b = none ∨ ∃ o xs, H b = some (.frz o (.lst xs))
theorem law_call {P:Program} {w:World} {K:PySem.W.Frag} {mg mb:Str -> Option Value} {CX:CXT} {k:Nat} {fa a:Addr} {fd:FuncData} {x:Str} {sp:Sp} {s₁:Shared} {vs:List Value} {ns:List Int}
  (KX:K.In s₁.heap) (hns:s₁.heap.Ns mainGlobals mg) (hb:s₁.heap.Ns builtinsNs mb) (hbb:∀ x:Str, x ≠ "__name__" -> mb x = bootBuiltins x) (hlim:s₁.heap.NoLimit) (hg:s₁.gens = #[])
  (ha:s₁.heap.get? a = some { cls:=.type "list", data:=.seq vs.toArray }) (hi:IntsAre vs ns) (hl:ns.length ≤ sizeLine) (hr:Room k callerA)
  (F:∀ base:Heap, K.In base -> base.Ns mainGlobals mg -> FnOk P w K mg base CX k fa fd [x] sp) (hbind:∀ (s:Shared) (u:Value), BindsTo s fd ⟨[u], []⟩ [(x, u)])
  (hsp:∀ H:Hp, Only H -> SqL K H a (ns.map V.int) -> sp [.ref a] H (fun v _=>v = .bl true) fun _ _ _=>False)
  (hCX:∀ H e s', CX [] H s₁ (fun _ _ _=>False) e s' -> False) :
  codeAny (model P w) callerA (.call (.ref fa) ⟨[.ref a], []⟩) (fun r s'=>r = .ok (.ret (.bool true)) ∧ OldK s₁.heap s'.heap ∧ s'.os = s₁.os ∧ AllBare s'.gens) s₁:=by
 have rv:=vals_ints hi
 have lenV:=hi.length
 have core:∀ H:Hp, Only H -> SqL K H a (ns.map V.int) -> HOk P w H s₁.heap -> (∀ b, H b ≠ none -> b = a) -> (H a ≠ none -> K.lookup a = none) ->
   codeAny (model P w) callerA (.call (.ref fa) ⟨[.ref a], []⟩) (fun r s'=>r = .ok (.ret (.bool true)) ∧ OldK s₁.heap s'.heap ∧ s'.os = s₁.os ∧ AllBare s'.gens) s₁:=by
  intro H hO hS hok hA hK
  have base_of:∀ {b:Addr} {o:Obj}, s₁.heap.get? b = some o -> H b = none -> (hidT s₁.heap H).get? b = some o:=fun e n=>hidT_get e n
  have noA:∀ {b:Addr} {o:Obj} {es:Array DictEntry} {ep:Nat}, s₁.heap.get? b = some o -> o.data = .dict es ep -> H b = none:=fun {b o es ep} e d=>by
   cases q:H b with
   | none=>rfl
   | some u=>
     have e':b = a:=hA b (by rw [q]; simp)
     subst e'
     rw [ha] at e; cases e
     have d':Data.seq vs.toArray _ = Data.dict es ep:=d
     cases d'
  have nsK:∀ {b:Addr} {m:Str -> Option Value}, s₁.heap.Ns b m -> (hidT s₁.heap H).Ns b m:=fun {b m} ⟨o, es, ep, e, d, r⟩=>⟨o, es, ep, base_of e (noA e d), d, r⟩
  have hKb:K.In (hidT s₁.heap H):=fun b o e=>base_of (KX b o e) (by
   cases q:H b with
   | none=>rfl
   | some u=>
     have e':b = a:=hA b (by rw [q]; simp)
     subst e'
     rw [hK (by rw [q]; simp)] at e; cases e)
  have hM:Mod K mg (hidT s₁.heap H):=⟨hKb, nsK hns, ⟨mb, nsK hb, hbb⟩, let ⟨mc, h1, h2⟩:=hlim; ⟨mc, nsK h1, h2⟩⟩
  have e0:Env0 P w K mg (hidT s₁.heap H) callerA [] s₁ H:=⟨rfl, hM, fun b o e=>of_hidT e, Nat.le_of_eq (hidT_size _ _), trivial, fun b hb=>absurd (show b ∈ ([]:List Addr) from hb) (by simp), hok, .of_eq hg⟩
  refine codeAny_mono ((F _ hKb (nsK hns)).run callerA [] s₁ H ⟨[.ref a], []⟩ [.ref a] [.ref a] _ _ hr e0 (hbind s₁ (.ref a)) (.cons rfl .nil) (hsp H hO hS)) fun r s' h=>?_
  cases r with
  | error e=>exact (hCX H e s' h).elim
  | ok fl=>
    cases fl with
    | next=>exact False.elim h
    | brk=>exact False.elim h
    | cont=>exact False.elim h
    | ret u=>
      obtain ⟨v, H', os, bare, un, hok', r', q⟩:=h
      have q':v = .bl true:=q
      subst q'
      obtain rfl:u = Value.bool true:=r'
      refine ⟨rfl, OldK.of_keep fun b o e=>?_, os, bare⟩
      cases q:H b with
      | none=>exact un.keep b o e q (by intro z; exact absurd (show b ∈ ([]:List Addr) from z) (by simp)) (by simp)
      | some u=>
        rcases hO b with z | ⟨ob, xs, z⟩
        ·rw [q] at z; cases z
        ·have z2:=un.frzs b ob _ z
         obtain ⟨e1, _⟩:=hok b _ z
         obtain ⟨e2, _⟩:=hok' b _ z2
         rw [e] at e1; cases e1
         exact e2
 cases hk:K.lookup a with
 | some o=>
   have e:=KX a o hk
   rw [ha] at e
   cases e
   refine core (fun _=>none) (fun _=>.inl rfl) (.inr ⟨_, vs.toArray, _, hk, rfl, rfl, rfl, by rw [List.size_toArray, lenV]; exact hl, by simpa using rv⟩) (fun b u z=>by have z':(none:Option HO) = some u:=z; cases z') (fun b z=>absurd rfl z) fun z=>absurd rfl z
 | none=>
   refine core (fun b=>if b = a then some (.frz { cls:=.type "list", data:=.seq vs.toArray } (.lst (ns.map V.int))) else none) (fun b=>?_) (.inl (.inr ⟨{ cls:=.type "list", data:=.seq vs.toArray }, if_pos rfl⟩)) (fun b u z=>?_) (fun b z=>?_) fun _=>hk
   ·by_cases hb:b = a
    ·exact .inr ⟨_, _, if_pos hb⟩
    ·exact .inl (if_neg hb)
   ·by_cases hb:b = a
    ·have z':=(if_pos hb).symm.trans z
     cases z'
     subst hb
     exact ⟨ha, by rw [List.length_map]; exact hl, vs, _, rv, ha⟩
    ·have z':=(if_neg hb).symm.trans z
     cases z'
   ·by_cases hb:b = a
    ·exact hb
    ·exact absurd (if_neg hb) z
end L2
namespace L2
open PySem PySem.Spec PyProof.Rows
theorem walk_of {l:PySem.W.OpenLaw} {n k:Nat} {q:Program} {loose:List Str} {XP:(Str -> Option Value) -> Heap -> Prop} {YP:World -> Heap -> Prop} {d:DefRec} {K:Params -> PySem.W.Frag} {CX:World -> CXT} {sp:World -> Sp} {x:Str}
  (hn:l.most = some n) (hn2:n ≤ sizeLine) (hdf:d.params.defaults = []) (hr:Room k callerA)
  (hY:∀ (w:World) (h:Heap), YP w h -> (K w.params).In h)
  (F:∀ (w:World) (mg:Str -> Option Value) (fa:Addr) (h:Heap), (K w.params).In h -> h.Ns mainGlobals mg -> mg d.name = some (.ref fa) ->
    ∃ fd:FuncData, (∀ (s:Shared) (u:Value), BindsTo s fd ⟨[u], []⟩ [(x, u)]) ∧
     ∀ base:Heap, (K w.params).In base -> base.Ns mainGlobals mg -> FnOk l.prog w (K w.params) mg base (CX w) k fa fd [x] (sp w))
  (hsp:∀ (w:World) (H:Hp) (a:Addr) (ns:List Int), ns.length ≤ n -> Only H -> SqL (K w.params) H a (ns.map V.int) -> sp w [.ref a] H (fun v _=>v = .bl true) fun _ _ _=>False)
  (hCX:∀ (w:World) (H:Hp) (s:Shared) (e:Value) (s':Shared), CX w [] H s (fun _ _ _=>False) e s' -> False) :
  PySem.W.WalkO q loose XP YP l.row.toRowW d [] (fun f vs=>PySem.call f vs):=by
 refine Att.attach_call hn hdf fun w s₀ s₁ mg mb fa o pm cd doc a vs ns G Y ho hd hcd hmg hobj hints hlen hg=>?_
 have KX:=hY w _ Y
 obtain ⟨fd, hb, hF⟩:=F w mg fa _ KX G.T.g hmg
 exact law_call KX G.T.g G.T.b G.T.builtins G.T.nolimit hg hobj hints (Nat.le_trans hlen hn2) hr hF hb (fun H hO hS=>hsp w H a ns hlen hO hS) fun H e s'=>hCX w H s₁ e s'
end L2
namespace L2
open PySem PySem.Spec PyProof.Rows
abbrev CX0:CXT:=fun _ _ _ _ _ _=>False
abbrev E0:XK:=fun _ _ _=>False
theorem pass0 {X:Cx}:Passes CX0 X E0:=fun _ _ _ _ _ _ _ h=>h.elim
structure Fun (K:PySem.W.Frag) (x qual:Str) (st:Stmt) (f:Addr) (fd:FuncData):Prop where
 ex:∃ (oc:Value) (od:Option Addr) (kV doc pm:Value) (an:Option Addr) (cdv ct:Value) (osl:Array (Option Value)),
  fd = PySem.W.fnOf x qual (defArgs st) (defBody st) (defScope st) .none kV doc pm an cdv ct ∧ K.lookup f = some ⟨oc, od, .func fd, osl⟩ ∧ PySem.W.codeIn K cdv qual = true
 kp:PySem.W.keepIn K (.ref f) = true
section
variable {P:Program} {w:World} {K:PySem.W.Frag} {mg:Str -> Option Value} {base:Heap}
theorem Fun.ok {x qual:Str} {st:Stmt} {f:Addr} {fd:FuncData} {N ps:List Str} {k:Nat} {sp:Sp} (F:Fun K x qual st f fd) (S:FnScope N ps (defScope st)) (len:∀ vs H Q E, sp vs H Q E -> vs.length = ps.length)
  (hbody:∀ (cdv:Value) (A:Around) (outer:List Env) (s:Shared) (H:Hp) (vs:List V) (Q:VK) (E:XK), Room k (A.deeper (envOfC qual (defScope st) s.heap.objs.size f cdv)) -> sp vs H Q E ->
    ∃ t, PSs (cxOf CX0 P w K mg base N qual (defScope st) f cdv A outer s H E).nox (defBody st) t ∧ t { nx:=fun _ H'=>Q .non H', rt:=Q } (start N vs) H):FnOk P w K mg base CX0 (k + 1) f fd ps sp:=by
 obtain ⟨oc, od, kV, doc, pm, an, cdv, ct, osl, rfl, lk, hcd⟩:=F.ex
 refine fn_of lk hcd S len fun A outer s H vs Q E hr hsp=>?_
 obtain ⟨t, h, q⟩:=hbody cdv A outer s H vs Q E hr hsp
 exact ⟨t, h.nox, q⟩
theorem Fun.binds {x qual:Str} {st:Stmt} {f:Addr} {fd:FuncData} {ps:List Str} (F:Fun K x qual st f fd)
  (h:∀ (kV doc pm:Value) (an:Option Addr) (cdv ct:Value) (us:List Value), us.length = ps.length -> bindArgs (PySem.W.fnOf x qual (defArgs st) (defBody st) (defScope st) .none kV doc pm an cdv ct) ⟨us, []⟩ = pure (ps.zip us)):Binds K fd ps []:=by
 obtain ⟨oc, od, kV, doc, pm, an, cdv, ct, osl, rfl, lk, hcd⟩:=F.ex
 exact .all (h kV doc pm an cdv ct)
theorem fun_mk {x qual:Str} {st:Stmt} {f:Addr} {oc:Value} {od an:Option Addr} {osl:Array (Option Value)} {kV doc pm cdv ct:Value} (l:K.lookup f = some ⟨oc, od, .func (PySem.W.fnOf x qual (defArgs st) (defBody st) (defScope st) .none kV doc pm an cdv ct), osl⟩)
  (c:PySem.W.codeIn K cdv qual = true) (k:PySem.W.keepIn K (.ref f) = true):Fun K x qual st f (PySem.W.fnOf x qual (defArgs st) (defBody st) (defScope st) .none kV doc pm an cdv ct):=⟨⟨oc, od, kV, doc, pm, an, cdv, ct, osl, rfl, l, c⟩, k⟩
end
theorem hu_of {A:Around} {k:Nat} (hr:Room k A):A.units + 1 < cLine:=Nat.lt_of_le_of_lt (Nat.add_le_add_left (by decide:1 ≤ 64) _) hr.units
section
variable {X:Cx}
theorem pv (i:Nat) {x:Str} {pos:Pos} (hN:X.N[i]? = some x:=by rfl) (hv:Vis X.env.scope x:=by first | exact Or.inl rfl | exact Or.inr (Or.inl rfl) | exact Or.inr (Or.inr rfl)) (hd:(x == ("__debug__":Str)) = false:=by decide)
  (hcd:(x == ("__classdict__":Str)) = false:=by decide):PE X (.Name x pos) (tVar i):=pe_var hN hv hd hcd
end
theorem iteF {A B:Prop} (h:B):if false = true then A else B:=by
 rw [if_neg Bool.false_ne_true]
 exact h
theorem iteT {A B:Prop} (h:A):if true = true then A else B:=by
 rw [if_pos rfl]
 exact h
theorem ite2 {c A B:Prop} [Decidable c] (h1:c -> A) (h2:¬ c -> B):if c then A else B:=by
 by_cases h:c
 ·rw [if_pos h]
  exact h1 h
 ·rw [if_neg h]
  exact h2 h
def Same (H H':Hp):Prop:=∀ b o, H b = some o -> H' b = some o
theorem Same.refl (H:Hp):Same H H:=fun _ _ h=>h
theorem Same.trans {H H1 H2:Hp} (a:Same H H1) (b:Same H1 H2):Same H H2:=fun c o h=>b c o (a c o h)
theorem Same.free {H H':Hp} (e:Same H H') {l:Addr} (h:H' l = Option.none):H l = Option.none:=by
 cases q:H l with
 | none=>rfl
 | some o=>
   rw [e l o q] at h
   cases h
theorem Same.seq {K:PySem.W.Frag} {H H':Hp} {a:Addr} {xs:List V} (e:Same H H') (h:SqL K H a xs):SqL K H' a xs:=by
 rcases h with (h | ⟨o, h⟩) | h
 ·exact .inl (.inl (e _ _ h))
 ·exact .inl (.inr ⟨o, e _ _ h⟩)
 ·exact .inr h
end L2
namespace L2
open PySem PySem.Spec PyProof.Rows
section
variable {X:Cx}
theorem call_lenD:CallR X (.builtin "len") (fun xs H Q=>∃ a kvs, xs = [V.ref a] ∧ H a = some (.dK kvs) ∧ Q (.int kvs.length) H):=by
 intro pins s σ H xs us Q I r h
 obtain ⟨a, kvs, rfl, ha, q⟩:=h
 obtain ⟨u, rfl, ru⟩:=vals1 r
 cases ru
 exact d_len I (.inl ha) fun t s' I'=>⟨.int kvs.length, H, I', ⟨t, rfl⟩, q⟩
end
section
variable {κ:Type} [DecidableEq κ]
theorem dropK_neg {p:κ × V} {r:List (κ × V)} {k:κ} (e:¬ p.1 = k):dropK (p :: r) k = p :: dropK r k:=by
 unfold dropK
 rw [List.filter_cons, if_pos (by simp [e])]
end
end L2

namespace L2
open PySem PySem.Spec PyProof.Rows
def compOk (sc os:Scope) (N' N:List Str) (cap:List (Option Nat)):Bool:=
 (sc.kind == .function) && sc.names.all (fun y=>y.2 != .cell) && sc.names.all (fun y=>y.2 != .local || sc.names.lookup y.1 == some .local) &&
 sc.names.all (fun y=>y.2 != .free || os.names.lookup y.1 == some .cell) && (N'.length == cap.length) &&
 (List.range cap.length).all fun i=>match cap[i]? with
   | some (some j)=>(match N'[i]?, N[j]? with
     | some x, some y=>x == y && os.names.lookup x == some .cell && sc.names.lookup x == some .free
     | _, _=>false)
   | _=>true
def capS (cap:List (Option Nat)) (σ:St):St:=cap.map fun o=>match o with
 | some j=>(σ[j]?).getD none
 | none=>none
def compCx (X:Cx) (sc:Scope) (cl:List (Str × Addr)) (C:Addr) (N':List Str) (s:Shared) (H:Hp) (fp:List Addr):Cx:=
 { X with N:=N', s₀:=s, H₀:=H, env:=compEnvC sc cl C X.env, outer:=X.stack, ex:=fp, fn:=fun _=>false, pn:=[], xe:=fun _ _=>False }
theorem relabel_back {sc:Scope} {env:Env} {x:Str}:∀ {names:List (Str × NameKind)} {k:NameKind},
  (names.map fun (n, k)=>if (k == NameKind.free && env.scope.kind == .function && env.kindOf n == some .cell) then (n, NameKind.cell) else (n, k)).lookup x = some k ->
  names.lookup x = some k ∨ (names.lookup x = some .free ∧ k = .cell)
 | [], k, h=>by simp at h
 | (n, k0) :: r, k, h=>by
  have ih:=@relabel_back sc env x r k
  rw [List.map_cons] at h
  cases hx:x == n with
  | true=>
    simp only [List.lookup_cons, hx]
    by_cases hc:(k0 == NameKind.free && env.scope.kind == .function && env.kindOf n == some .cell) = true
    ·simp only [hc, if_true, List.lookup_cons, hx] at h
     cases h
     have h0:(k0 == NameKind.free) = true:=by
      revert hc
      cases (k0 == NameKind.free) <;> simp
     exact .inr ⟨by rw [eq_of_beq h0], rfl⟩
    ·simp only [hc, Bool.false_eq_true, if_false, List.lookup_cons, hx] at h
     exact .inl h
  | false=>
    simp only [List.lookup_cons, hx]
    refine ih ?_
    by_cases hc:(k0 == NameKind.free && env.scope.kind == .function && env.kindOf n == some .cell) = true
    ·simp only [hc, if_true, List.lookup_cons, hx] at h; exact h
    ·simp only [hc, Bool.false_eq_true, if_false, List.lookup_cons, hx] at h; exact h
theorem closure_ok {env:Env}:∀ (names:List (Str × NameKind)) (acc:List (Str × Addr)), (∀ y ∈ names, y.2 = .free -> ∃ c, env.cells.lookup y.1 = some c) ->
  (∀ x c, acc.lookup x = some c -> env.cells.lookup x = some c) ->
  ∃ cl:List (Str × Addr), (forIn (m:=Sem) names acc fun y r=>(if (y.2 == NameKind.free) = true then (cellOf env y.1 >>= fun a=>pure (ForInStep.yield ((y.1, a) :: r))) else pure (ForInStep.yield r))) = pure cl ∧
   (∀ x c, cl.lookup x = some c -> env.cells.lookup x = some c) ∧ (∀ x, (∃ c, acc.lookup x = some c) -> ∃ c, cl.lookup x = some c) ∧ ∀ y ∈ names, y.2 = .free -> ∃ c, cl.lookup y.1 = some c
 | [], acc, _, ha=>⟨acc, rfl, ha, fun _ h=>h, fun y hy=>by simp at hy⟩
 | (n, k) :: r, acc, hf, ha=>by
  rw [List.forIn_cons]
  by_cases hk:(k == NameKind.free) = true
  ·have hk':k = .free:=eq_of_beq hk
   obtain ⟨c, hc⟩:=hf (n, k) List.mem_cons_self hk'
   have hc:env.cells.lookup n = some c:=hc
   obtain ⟨cl, e, h1, h2, h3⟩:=closure_ok r ((n, c) :: acc) (fun y hy=>hf y (List.mem_cons_of_mem _ hy)) (fun x d hd=>by
    rw [List.lookup_cons] at hd
    cases hx:x == n with
    | true=>rw [hx] at hd; rw [eq_of_beq hx]; exact hc.trans hd
    | false=>rw [hx] at hd; exact ha x d hd)
   refine ⟨cl, ?_, h1, fun x ⟨d, hd⟩=>h2 x ?_, fun y hy hyk=>?_⟩
   ·have e1:cellOf env n = pure c:=by unfold cellOf; rw [hc]
    dsimp only
    rw [if_pos hk, e1]
    exact e
   ·cases hx:x == n with
    | true=>exact ⟨c, by rw [List.lookup_cons, hx]⟩
    | false=>exact ⟨d, by rw [List.lookup_cons, hx]; exact hd⟩
   ·rcases List.mem_cons.mp hy with rfl | hy
    ·exact h2 n ⟨c, by rw [List.lookup_cons, beq_self_eq_true]⟩
    ·exact h3 y hy hyk
  ·obtain ⟨cl, e, h1, h2, h3⟩:=closure_ok r acc (fun y hy=>hf y (List.mem_cons_of_mem _ hy)) ha
   refine ⟨cl, ?_, h1, h2, fun y hy hyk=>?_⟩
   ·dsimp only
    rw [if_neg hk]
    exact e
   ·rcases List.mem_cons.mp hy with rfl | hy
    ·exact absurd (by rw [show k = .free from hyk]; rfl) hk
    ·exact h3 y hy hyk
theorem closureFor_ok {sc:Scope} {env:Env} (hf:∀ y ∈ sc.names, y.2 = .free -> ∃ c, env.cells.lookup y.1 = some c) :
  ∃ cl:List (Str × Addr), closureFor sc env = pure cl ∧ (∀ x c, cl.lookup x = some c -> env.cells.lookup x = some c) ∧ ∀ y ∈ sc.names, y.2 = .free -> ∃ c, cl.lookup y.1 = some c:=by
 obtain ⟨cl, e, h1, _, h3⟩:=closure_ok sc.names [] hf (fun x c h=>by simp at h)
 refine ⟨cl, ?_, h1, h3⟩
 unfold closureFor
 show (forIn sc.names [] _ >>= fun cs=>pure cs) = pure cl
 have e':(forIn (m:=Sem) sc.names ([]:List (Str × Addr)) fun x r=>match x with | (name, kind)=>if (kind == NameKind.free) = true then (cellOf env name >>= fun a=>pure (ForInStep.yield ((name, a) :: r))) else pure (ForInStep.yield r)) = pure cl:=e
 first
  | (rw [e']; rfl)
  | (simp only [e']; rfl)
  | exact e'
structure CompFacts (X:Cx) (sc:Scope) (N':List Str) (cap:List (Option Nat)):Prop where
 kind:sc.kind = .function
 nocell:∀ y ∈ sc.names, y.2 ≠ .cell
 names:∀ y ∈ sc.names, y.2 = .local -> sc.names.lookup y.1 = some .local
 free:∀ y ∈ sc.names, y.2 = .free -> X.env.scope.names.lookup y.1 = some .cell
 len:N'.length = cap.length
 caps:∀ (i j:Nat), cap[i]? = some (some j) -> ∃ x, N'[i]? = some x ∧ X.N[j]? = some x ∧ X.env.scope.names.lookup x = some .cell ∧ sc.names.lookup x = some .free
theorem compFacts {X:Cx} {sc:Scope} {N':List Str} {cap:List (Option Nat)} (h:compOk sc X.env.scope N' X.N cap = true):CompFacts X sc N' cap:=by
 unfold compOk at h
 simp only [Bool.and_eq_true, List.all_eq_true, bne_iff_ne, beq_iff_eq, Bool.or_eq_true, ne_eq, List.mem_range] at h
 obtain ⟨⟨⟨⟨⟨h1, h2⟩, h3⟩, h4⟩, h5⟩, h6⟩:=h
 refine ⟨h1, h2, fun y hy hk=>(h3 y hy).resolve_left (fun q=>q hk), fun y hy hk=>(h4 y hy).resolve_left (fun q=>q hk), h5, fun i j e=>?_⟩
 have hi:i < cap.length:=(List.getElem?_eq_some_iff.mp e).1
 have q:=h6 i hi
 rw [e] at q
 cases e1:N'[i]? with
 | none=>simp [e1] at q
 | some x=>
   cases e2:X.N[j]? with
   | none=>simp [e1, e2] at q
   | some y=>
     simp only [e1, e2, Bool.and_eq_true, beq_iff_eq] at q
     exact ⟨x, rfl, by rw [q.1.1], q.1.2, q.2⟩
def PTs (X:Cx) (ifs:List Expr) (t:TT):Prop:=
 ∀ (pins:List (Addr × Obj)) (s:Shared) (σ:St) (H:Hp) (Q:Bool -> Hp -> Prop), Inv X pins σ H s -> t σ H Q ->
  wpAny (model X.prog X.w) X.A (forIn ifs true fun c r=>if r = true then do let ok ← isTrue c X.env (eval c X.env); pure (ForInStep.yield ok) else pure (ForInStep.yield r)) (TP X pins σ Q) X.xe s
def tYes:TT:=fun _ H Q=>Q true H
theorem pts_nil {X:Cx}:PTs X [] tYes:=fun _ _ _ H _ I h=>wpAny_tests_nil ⟨H, I, h⟩
theorem pts_one {X:Cx} {c:Expr} {t:TT} (h:PT X c t):PTs X [c] t:=fun pins s σ H Q I q=>wpAny_tests_one (h pins s σ H Q I q)
def LcG (cap:List (Option Nat)) (g:TG) (tc:TT) (te:TE) (σ:St) (Q:VK):It -> Hp -> Prop:=fun J H1=>
 ∃ W:Nat -> Nat -> List V -> St -> Hp -> Prop, (∃ m, W 0 m [] (capS cap σ) H1) ∧ ∀ i m ys σ' H', W i m ys σ' H' -> ys.length ≤ sizeLine ∧
  ((J.stop i H' ∧ ∀ p, H' p = none -> Q (.ref p) (upd H' p (.lst ys))) ∨
   (J.go i H' ∧ ∀ x H2, J.yld i H' x H2 -> g x σ' H2 fun σ3 H3=>tc σ3 H3 fun b H4=>
     if b = true then te σ3 H4 fun y H5=>ys.length < sizeLine ∧ ∃ m', m' < m ∧ W (i + 1) m' (ys ++ [y]) σ3 H5 else ∃ m', m' < m ∧ W (i + 1) m' ys σ3 H4))
def tLc (cap:List (Option Nat)) (wi:TI) (g:TG) (tc:TT) (te:TE):TE:=fun σ H Q=>wi σ H (LcG cap g tc te σ Q)
section
variable {X:Cx} {sc:Scope} {N':List Str} {cap:List (Option Nat)} {pins:List (Addr × Obj)} {σ:St} {H:Hp} {s:Shared} {fp:List Addr} {cl:List (Str × Addr)} {C:Addr}
theorem compCx_ok (I:Inv X pins σ H s) (F:CompFacts X sc N' cap) (hcl:∀ x c, cl.lookup x = some c -> X.env.cells.lookup x = some c)
  (hcl2:∀ y ∈ sc.names, y.2 = .free -> ∃ c, cl.lookup y.1 = some c) (hf:∀ b ∈ fp, FpOk X pins H b) (hC:s.heap.objs.size ≤ C) (hfs:∀ b ∈ fp, b < s.heap.objs.size):(compCx X sc cl C N' s H fp).Ok where
 mod:=I.ok.mod
 kind:=F.kind
 glob:=I.ok.glob
 blt:=I.ok.blt
 above:=hC
 inj:=fun x y c h1 h2=>I.ok.inj x y c (hcl x c h1) (hcl y c h2)
 has:=fun x hx=>by
  have key:∀ k, (compEnvC sc cl C X.env).kindOf x = some k -> (k = .cell ∨ k = .free) -> ∃ c, cl.lookup x = some c:=fun k hk hkk=>by
   rcases relabel_back (sc:=sc) (env:=X.env) (names:=sc.names) hk with q | ⟨q, _⟩
   ·have m:=PySem.mem_of_lookup q
    rcases hkk with e | e
    ·exact absurd e (F.nocell _ m)
    ·exact hcl2 _ m e
   ·exact hcl2 _ (PySem.mem_of_lookup q) rfl
  rcases hx with hx | hx
  ·exact key _ hx (.inl rfl)
  ·exact key _ hx (.inr rfl)
 cab:=fun x c h=>by cases h
 hd:=I.ok.hd
 frames:=I.ok.frames
 stk:=.inl rfl
 exf:=fun b hb=>⟨Nat.ne_of_lt (Nat.lt_of_lt_of_le (hfs b hb) hC), fun x c e=>(hf b hb).2.2.2.2.1 x c (hcl x c e)⟩
 bs:=I.bs
 bsz:=Nat.le_trans I.ok.bsz I.sz
 noex:=fun b o e hb=>by
  rcases (hf b hb).2.2.2.1 with z | z
  ·exact I.ok.noex b o e z
  ·exact absurd (Nat.lt_of_lt_of_le (Nat.lt_of_lt_of_le (Heap.lt_size e) I.ok.bsz) z) (Nat.lt_irrefl _)
 exfs:=fun b hb z=>by
  rcases List.mem_cons.mp (I.stkSub b z) with q | q
  ·exact (hf b hb).2.1 q
  ·exact (hf b hb).2.2.1 q
 funs:=I.stack
 frf:=I.stkFree
theorem compCx_inv {h₁:Heap} {tk:Nat} {m:Str -> Option Value} (I:Inv X pins σ H s) (F:CompFacts X sc N' cap) (hcl:∀ x c, cl.lookup x = some c -> X.env.cells.lookup x = some c)
  (hcl2:∀ y ∈ sc.names, y.2 = .free -> ∃ c, cl.lookup y.1 = some c) (hf:∀ b ∈ fp, FpOk X pins H b) (hC:s.heap.objs.size ≤ C) (hfs:∀ b ∈ fp, b < s.heap.objs.size)
  (old:∀ b o, s.heap.get? b = some o -> h₁.get? b = some o) (hns:h₁.Ns C m):Inv (compCx X sc cl C N' s H fp) [] (capS cap σ) H { s with heap:=h₁, toks:=tk }:=by
 have free:H C = none:=I.hok.fresh hC
 refine ⟨compCx_ok I F hcl hcl2 hf hC hfs, rfl, I.bare, Un.kept old, ⟨m, hns, fun i x v e1 e2 e3=>?_⟩, fun x c e=>?_, free, fun x c e=>I.freeC x c (hcl x c e), fun p hp=>by simp [compCx] at hp, I.hok.kept old, by simp [capS, compCx, F.len]⟩
 ·unfold capS at e2
  rw [List.getElem?_map] at e2
  cases ec:cap[i]? with
  | none=>rw [ec] at e2; simp at e2
  | some oj=>
    rw [ec] at e2
    cases oj with
    | none=>simp at e2
    | some j=>
      obtain ⟨x', g1, g2, g3, g4⟩:=F.caps i j ec
      have ex:x' = x:=Option.some.inj (g1.symm.trans (show N'[i]? = some x from e1))
      subst ex
      have e2':(σ[j]?).getD none = some v:=Option.some.inj e2
      have e2'':σ[j]? = some (some v):=by
       cases q:σ[j]? with
       | none=>rw [q] at e2'; cases e2'
       | some z=>rw [q] at e2'; exact congrArg some e2'
      obtain ⟨m0, _, hl⟩:=I.loc
      obtain ⟨u, r, l⟩:=hl j x' v g2 e2'' (.inr (.inl g3))
      refine ⟨u, r, ?_⟩
      rcases l with ⟨k, _⟩ | ⟨k, c, e, z⟩
      ·have k':X.env.scope.names.lookup x' = some .local:=k
       rw [g3] at k'; cases k'
      ·have hv:(compEnvC sc cl C X.env).kindOf x' = some .local ∨ (compEnvC sc cl C X.env).kindOf x' = some .cell ∨ (compEnvC sc cl C X.env).kindOf x' = some .free:=e3
       have onef:sc.names.lookup x' = some .free -> Look (compEnvC sc cl C X.env) h₁ m x' u:=fun q=>by
        obtain ⟨c', hc'⟩:=hcl2 _ (PySem.mem_of_lookup q) rfl
        have hc':cl.lookup x' = some c':=hc'
        have:c' = c:=Option.some.inj ((hcl x' c' hc').symm.trans e)
        subst this
        refine .inr ⟨?_, c', hc', z.keeps old⟩
        rcases hv with k1 | k1 | k1
        ·exfalso
         rcases relabel_back (sc:=sc) (env:=X.env) (names:=sc.names) k1 with q1 | ⟨_, q2⟩
         ·rw [q] at q1; cases q1
         ·cases q2
        ·exact .inl k1
        ·exact .inr k1
       exact onef g4
 ·obtain ⟨v, z⟩:=I.cell x c (hcl x c e)
  exact ⟨v, z.keeps old⟩
theorem compLoop_by {prog:Program} {w:World} {A:Around} {R:Result -> Shared -> Prop} {elt tg iter:Expr} {ifs:List Expr} {scope:Scope} {pos:Pos} {it acc:Value} {env:Env} {s:Shared} (J:Nat -> Shared -> Prop)
  (turn:∀ n s, J n s -> wpAny (model prog w) A (pyNext it) (fun r s₁=>(r = none ∧ R (.ok .next) s₁) ∨ ∃ v, r = some v ∧ wpAny (model prog w) A (letOwnedTupleGo tg it v) (fun _ s1=>
     wpAny (model prog w) A (assign tg env v) (fun _ s₂=>
      wpAny (model prog w) A (forIn ifs true fun c r=>if r = true then do let ok ← isTrue c env (eval c env); pure (ForInStep.yield ok) else pure (ForInStep.yield r)) (fun ok s₃=>
       if ok = true then wpAny (model prog w) A (eval elt env) (fun x s₄=>
        wpAny (model prog w) A (call (.builtin "list.append") [acc, x]) (fun _ s₅=>∃ m, m < n ∧ J m s₅) (fun _ _=>False) s₄) (fun _ _=>False) s₃
       else ∃ m, m < n ∧ J m s₃) (fun _ _=>False) s₂) (fun _ _=>False) s1) (fun _ _=>False) s₁) (fun _ _=>False) s)
  (n:Nat) (h:J n s):codeAny (model prog w) A (.compLoop (.ListComp elt [⟨tg, iter, ifs, 0⟩] scope pos) 0 it acc env) R s:=by
 refine codeAny_loop rfl J (fun n s hJ=>?_) n h
 show wpAny _ A ((compTurn (.ListComp elt [⟨tg, iter, ifs, 0⟩] scope pos) 0 it acc env).onRaise (fun x=>do noteFrame x env; theTreesLotGoes x)) _ _ s
 refine wpAny_noted ?_
 rw [compTurn_list]
 refine wpAny_bind (wpAny_standAt (wpAny_bind (wpAny_mono (turn n s hJ) (fun r s₁ h₁=>?_) fun _ _ f=>f.elim)))
 rcases h₁ with ⟨rfl, h₁⟩ | ⟨v, rfl, h₁⟩
 ·exact wpAny_pure h₁
 ·refine wpAny_bind (wpAny_mono h₁ (fun _ s1 h1=>?_) fun _ _ f=>f.elim)
  refine wpAny_bind (wpAny_mono h1 (fun _ s₂ h₂=>wpAny_bind (wpAny_mono h₂ (fun ok s₃ h₃=>?_) fun _ _ f=>f.elim)) fun _ _ f=>f.elim)
  cases ok with
  | false=>exact wpAny_pure ⟨rfl, h₃⟩
  | true=>
    exact wpAny_bind (wpAny_bind (wpAny_mono h₃ (fun x s₄ h₄=>wpAny_bind (wpAny_mono h₄ (fun _ s₅ h₅=>wpAny_pure (wpAny_pure ⟨rfl, h₅⟩)) fun _ _ f=>f.elim)) fun _ _ f=>f.elim))
theorem comp_block {elt tg iter:Expr} {ifs:List Expr} {pos:Pos} {g:TG} {tc:TT} {te:TE} {Qv:VK} {it:Addr} {tn:Nat -> Heap -> Prop} {J:It} {E:Value -> Shared -> Prop} {RR:Value -> Addr -> Result -> Shared -> Prop}
  {W:Nat -> Nat -> List V -> St -> Hp -> Prop} {m0:Nat} (hc:X.calm = true) (I:Inv X pins σ H s) (F:CompFacts X sc N' cap) (hcl:∀ x c, cl.lookup x = some c -> X.env.cells.lookup x = some c)
  (hcl2:∀ y ∈ sc.names, y.2 = .free -> ∃ c, cl.lookup y.1 = some c)
  (hg:∀ cl C s H fp, PG (compCx X sc cl C N' s H fp) tg g) (ht:∀ cl C s H fp, PTs (compCx X sc cl C N' s H fp) ifs tc) (he:∀ cl C s H fp, PE (compCx X sc cl C N' s H fp) elt te)
  (T:Turn X.prog X.w X.K tg J fp it tn) (st:tn 0 s.heap) (hf:∀ b ∈ fp, FpOk X pins H b) (w0:W 0 m0 [] (capS cap σ) H)
  (turn:∀ i m ys σ' H', W i m ys σ' H' -> ys.length ≤ sizeLine ∧ ((J.stop i H' ∧ ∀ p, H' p = none -> Qv (.ref p) (upd H' p (.lst ys))) ∨
   (J.go i H' ∧ ∀ x H2, J.yld i H' x H2 -> g x σ' H2 fun σ3 H3=>tc σ3 H3 fun b H4=>
     if b = true then te σ3 H4 fun y H5=>ys.length < sizeLine ∧ ∃ m', m' < m ∧ W (i + 1) m' (ys ++ [y]) σ3 H5 else ∃ m', m' < m ∧ W (i + 1) m' ys σ3 H4)))
  (fin:∀ (D C:Addr) (m:Str -> Option Value) (H':Hp) (s':Shared), s.heap.objs.size ≤ C -> s'.heap.Ns C m -> Inv X pins σ H' s' -> FpOk X pins H' C -> Qv (.ref D) H' -> RR (.ref D) C (.ok .next) s') :
  wpAny (model X.prog X.w) X.A (newList []) (fun acc s₃=>wpAny (model X.prog X.w) X.A (newFunctionEnv sc X.env.globals cl [] X.env.qual none .none (some X.env)) (fun cenv s₄=>
   codeAny (model X.prog X.w) X.A (.compStart (.ListComp elt [⟨tg, iter, ifs, 0⟩] sc pos) 0 (.ref it) acc { cenv with scope:=relabel sc X.env }) (RR acc cenv.locals) s₄) E s₃) E s:=by
 refine wpAny_newObj_type (wpAny_newFunctionEnv F.nocell (by intro y hy; simp at hy) (fun h₁ hns₁ hsb₁=>?_) F.kind)
 dsimp only at hns₁ hsb₁ ⊢
 have hfs:∀ b ∈ fp, b < s.heap.objs.size:=fun b hb=>by
  obtain ⟨o, e, _⟩:=T.obj _ _ st b hb
  exact Heap.lt_size e
 have old:∀ b o, s.heap.get? b = some o -> h₁.get? b = some o:=fun b o e=>by
  have hb:=Heap.lt_size e
  exact hsb₁.extBut b o (by rw [Heap.size_push]; exact Nat.ne_of_lt (Nat.lt_succ_of_lt hb)) (Heap.get?_push_of_some _ (Heap.get?_push_of_some _ e))
 generalize hCe:(s.heap.push { cls:=.type "list", dict:=none, data:=.seq ([]:List Value).toArray }).objs.size = C at *
 have hCs:C = s.heap.objs.size + 1:=by rw [← hCe, Heap.size_push]
 have hC:s.heap.objs.size ≤ C:=by omega
 have hDC:s.heap.objs.size ≠ C:=by omega
 have hD₁:h₁.get? s.heap.objs.size = some { cls:=.type "list", data:=.seq ([]:List Value).toArray 0 }:=
  hsb₁.extBut _ _ hDC (Heap.get?_push_of_some _ (Heap.get?_push_size _ rfl))
 have freeD:H s.heap.objs.size = none:=I.hok.fresh (Nat.le_refl _)
 let X':Cx:=compCx X sc cl C N' s H fp
 have I0:Inv X' [] (capS cap σ) H { s with heap:=h₁, toks:=s.toks + ([]:List (Str × Value)).length }:=compCx_inv I F hcl hcl2 hf hC hfs old hns₁
 have fpX:∀ {H':Hp} {pl:List (Addr × Obj)}, (∀ b ∈ fp, H' b = none) -> (∀ p ∈ pl, p.1 = s.heap.objs.size) -> ∀ b ∈ fp, FpOk X' pl H' b:=fun {H' pl} hn hp b hb=>by
  refine ⟨hn b hb, Nat.ne_of_lt (Nat.lt_of_lt_of_le (hfs b hb) hC), I0.ok.exfs b hb, .inl hb, (I0.ok.exf b hb).2, fun p hpp=>?_⟩
  have:p.1 = s.heap.objs.size:=hp p (by simpa [X', compCx] using hpp)
  rw [this]
  exact Ne.symm (Nat.ne_of_lt (hfs b hb))
 have nD:s.heap.objs.size ∉ X'.fs:=fun z=>by
  obtain ⟨_, o, ho, _⟩:=I0.ok.funs.mem z
  exact absurd (Heap.lt_size ho) (Nat.lt_irrefl _)
 have cD:∀ x c, X'.env.cells.lookup x = some c -> c ≠ s.heap.objs.size:=fun x c e z=>by
  obtain ⟨v, q⟩:=I.cell x c (hcl x c e)
  exact absurd q.lt (by rw [z]; exact Nat.lt_irrefl _)
 have loop:codeAny (model X.prog X.w) X.A (.compLoop (.ListComp elt [⟨tg, iter, ifs, 0⟩] sc pos) 0 (.ref it) (.ref s.heap.objs.size) (compEnvC sc cl C X.env)) (RR (.ref s.heap.objs.size) C) { s with heap:=h₁, toks:=s.toks + ([]:List (Str × Value)).length }:=by
  refine compLoop_by (fun n s'=>∃ i ys σ' H' its k, Inv X' [(s.heap.objs.size, { cls:=.type "list", data:=.seq (List.toArray its) k })] σ' H' s' ∧ tn i s'.heap ∧ (∀ b ∈ fp, H' b = none) ∧ Vals ys its ∧ W i n ys σ' H') ?_ m0
   ⟨0, [], capS cap σ, H, [], 0, I0.pins_of fun p hp=>?_, T.keep _ _ _ st fun b _ o e=>old b o e, fun b hb=>(hf b hb).1, .nil, w0⟩
  ·rintro n s3 ⟨i, ys, σ3, H3, its, k, I3, st3, fr3, rv, w3⟩
   obtain ⟨hlen, way⟩:=turn i n ys σ3 H3 w3
   have f3:=fpX (pl:=[(s.heap.objs.size, { cls:=.type "list", data:=.seq (List.toArray its) k })]) fr3 (fun p hp=>by rw [List.mem_singleton.mp hp])
   rcases way with ⟨stop, qn⟩ | ⟨go, step⟩
   ·refine thn (T.done X' rfl rfl rfl hc i _ s3 σ3 H3 _ I3 f3 st3 stop) fun r s4 ⟨hr, I4⟩=>.inl ⟨hr, ?_⟩
    obtain ⟨eD, nD3, neD, nfD, _⟩:=I4.pin (s.heap.objs.size, { cls:=.type "list", data:=.seq (List.toArray its) k }) (by simp [X', compCx])
    obtain ⟨m4, hn4, _⟩:=id I4.loc
    have u4:Un (frs X.stack) fp H H3 s.heap s4.heap:=I4.base
    have lts:∀ b o, s.heap.get? b = some o -> b ≠ s.heap.objs.size:=fun b o e=>Nat.ne_of_lt (Heap.lt_size e)
    have hokF:HOk X.prog X.w (upd H3 s.heap.objs.size (.lst ys)) s4.heap:=fun b o e=>by
     by_cases hb:b = s.heap.objs.size
     ·subst hb
      rw [upd_same] at e; cases e
      exact ⟨hlen, its, k, rv, eD⟩
     ·rw [upd_ne hb] at e
      exact (I4.hok b o e).stay (fun _ _ _ q=>q) (fun c q=>by rw [upd_ne (ne_of_none q nD3)]; exact q) fun c xs q=>by rw [upd_ne (ne_of_none q nD3)]; exact q
    have uF:Un (frs X.stack) fp H (upd H3 s.heap.objs.size (.lst ys)) s.heap s4.heap:=
     ⟨u4.keep, u4.slot, fun b o e n hx=>by rw [upd_ne (lts b o e)]; exact u4.free b o e n hx, u4.there, fun b xs e=>by rw [upd_ne (ne_of_none e freeD)]; exact u4.tups b xs e, fun b o xs e=>by rw [upd_ne (ne_of_none e freeD)]; exact u4.frzs b o xs e,
       fun b ps e=>by rw [upd_ne (ne_of_none e freeD)]; exact u4.tbls b ps e⟩
    have IF:Inv X pins σ (upd H3 s.heap.objs.size (.lst ys)) s4:=I.call' (ch:=fp) I4.os uF hokF I4.bare fun b hb=>by
     obtain ⟨_, g1, _, g3, g4, g5⟩:=hf b hb
     exact ⟨g3, g1, g4, g5⟩
    exact fin _ C m4 _ s4 hC hn4 IF (I.fpOk hC (by rw [upd_ne (Ne.symm hDC)]; exact I4.free)) (qn _ nD3)
   ·refine thn (T.item X' rfl rfl rfl hc i _ s3 σ3 H3 _ I3 f3 st3 go) fun r s4 ⟨u, hr, h4⟩=>.inr ⟨u, hr, ?_⟩
    refine thn h4 fun _ s5 ⟨x, H5, I5, r5, y5, st5, fr5⟩=>?_
    have I5':=I5.pinned (fpX fr5 (fun p hp=>by rw [List.mem_singleton.mp hp])) (T.obj _ _ st5)
    refine thn (hg cl C s H fp _ s5 σ3 H5 x u _ I5' r5 (step x H5 y5)) fun _ s6 ⟨σ6, H6, I6, q6⟩=>?_
    refine thn (ht cl C s H fp _ s6 σ6 H6 _ I6 q6) fun b s7 ⟨H7, I7, q7⟩=>?_
    have keepT:∀ {σ8:St} {H8:Hp} {s8:Shared}, Inv X' ([(s.heap.objs.size, { cls:=.type "list", data:=.seq (List.toArray its) k })] ++ pinsAt fp s5.heap) σ8 H8 s8 -> tn (i + 1) s8.heap ∧ ∀ b ∈ fp, H8 b = none:=fun {σ8 H8 s8} I8=>by
     refine ⟨T.keep _ _ _ st5 fun b hb o e=>(I8.pin (b, o) (List.mem_append_right _ (List.mem_append_right _ (mem_pinsAt hb e)))).1, fun b hb=>?_⟩
     obtain ⟨o, e, d⟩:=T.obj _ _ st5 b hb
     exact (I8.pin (b, o) (List.mem_append_right _ (List.mem_append_right _ (mem_pinsAt hb e)))).2.1
    cases b with
    | false=>
      rw [if_neg Bool.false_ne_true] at q7
      rw [if_neg Bool.false_ne_true]
      obtain ⟨m', hm, w7⟩:=q7
      obtain ⟨t7, n7⟩:=keepT I7
      exact ⟨m', hm, i + 1, ys, σ6, H7, its, k, I7.unpinned, t7, n7, rv, w7⟩
    | true=>
      rw [if_pos rfl] at q7
      rw [if_pos rfl]
      refine thn (he cl C s H fp _ s7 σ6 H7 _ I7 q7) fun z s8 ⟨y, H8, I8, r8, hl8, m', hm, w8⟩=>?_
      obtain ⟨t8, n8⟩:=keepT I8
      obtain ⟨eD, nD8, neD, nfD, _⟩:=I8.pin (s.heap.objs.size, { cls:=.type "list", data:=.seq (List.toArray its) k }) (by simp [X', compCx])
      have hrl:=rv.length
      refine call_meets PySem.F.slot_list_append ⟨_, eD, rfl⟩ PySem.F.entry_list_append (PySem.F.args_list_append_2 _ _) (PySem.list_append _ its.toArray k z (by rw [List.size_toArray]; omega)) ⟨eD, ?_⟩
      have q:=PySem.IsL.update eD (·.push z)
      have I9:Inv X' [] σ6 H8 { s8 with heap:=s8.heap.update s.heap.objs.size (Obj.mapSeq (·.push z)) }:=
       (I8.pins_of (pins':=[]) (fun p hp=>by simp at hp)).turned (t':=s8.toks) (it:=s.heap.objs.size) (fun b' u hb hu=>(Heap.get?_update_other s8.heap (Obj.mapSeq (·.push z)) (Ne.symm hb)).trans hu) nD8 hDC (.inr (Nat.le_refl _)) cD (fun p hp=>by simp [X', compCx] at hp)
      refine ⟨m', hm, i + 1, ys ++ [y], σ6, H8, its ++ [z], (if ((its.toArray.push z).size == its.toArray.size) = true then k else k + 1), I9.pins_of fun p hp=>?_, ?_, n8, rv.append (.cons r8 .nil), w8⟩
      ·rw [List.mem_singleton.mp hp]
       exact ⟨by rw [show (its ++ [z]).toArray = its.toArray.push z by simp]; exact q, nD8, hDC, nD, fun v e=>by cases e⟩
      ·exact T.keep _ _ _ t8 fun b hb o e=>(Heap.get?_update_other s8.heap (Obj.mapSeq (·.push z)) (Nat.ne_of_lt (hfs b hb)).symm).trans e
  ·rw [List.mem_singleton.mp hp]
   exact ⟨hD₁, freeD, hDC, nD, fun v e=>by cases e⟩
 exact codeAny_compStart_list loop (T.self _ 0 _ _ _ (T.keep _ _ _ st fun b _ o e=>old b o e) loop)
theorem compFacts_cl (I:Inv X pins σ H s) (F:CompFacts X sc N' cap):∃ cl:List (Str × Addr), closureFor sc X.env = pure cl ∧ (∀ x c, cl.lookup x = some c -> X.env.cells.lookup x = some c) ∧ ∀ y ∈ sc.names, y.2 = .free -> ∃ c, cl.lookup y.1 = some c:=
 closureFor_ok fun y hy hk=>I.ok.has y.1 (.inl (F.free y hy hk))
theorem pe_lc {elt tg iter:Expr} {ifs:List Expr} {pos:Pos} {wi:TI} {g:TG} {tc:TT} {te:TE} (hc:X.calm = true) (hk:compOk sc X.env.scope N' X.N cap = true) (hi:PI X tg iter wi)
  (hg:∀ cl C s H fp, PG (compCx X sc cl C N' s H fp) tg g) (ht:∀ cl C s H fp, PTs (compCx X sc cl C N' s H fp) ifs tc) (he:∀ cl C s H fp, PE (compCx X sc cl C N' s H fp) elt te)
  (hs:∀ x, foldedSetIterable iter X.env x = pure x:=by intro _; rfl):PE X (.ListComp elt [⟨tg, iter, ifs, 0⟩] sc pos) (tLc cap wi g tc te):=by
 intro pins s σ H Q I h
 have F:=compFacts hk
 obtain ⟨cl, ecl, hcl, hcl2⟩:=compFacts_cl I F
 rw [eval_ListComp]
 refine wpAny_comprehension_free (use:=none) rfl hs ecl F.kind F.names (thn (hi pins s σ H _ I h) fun v s1 h1=>thn h1 fun itv s2 h2=>?_)
 obtain ⟨it, fp, tn, J, H2, e, I2, T, st2, f2, W, ⟨m0, w0⟩, turn⟩:=h2
 subst e
 refine comp_block hc I2 F hcl hcl2 hg ht he T st2 f2 w0 turn (RR:=fun acc C=>compPost (model X.prog X.w) X.A X.xe none (EP X pins σ Q) acc C) ?_
 intro D C m H' s' hC hn I' fC q
 refine ⟨m, hn, fun h' hs'=>⟨.ref D, H', ?_, rfl, q⟩⟩
 obtain ⟨g0, g1, _, g3, g4, g5⟩:=fC
 exact I'.turned (t':=s'.toks) (fun b o hb e=>(hs'.2 b hb).trans e) g0 g1 g3 g4 g5
def tSetLc (i:Nat) (t:TE):TS:=fun D σ H=>t σ H fun v H1=>D.nx (σ.set i (some v)) H1
theorem ps_setlc {i:Nat} {x:Str} {elt tg iter:Expr} {ifs:List Expr} {pos spos px:Pos} {wi:TI} {g:TG} {tc:TT} {te:TE} (hN:X.N.Nodup) (hi':X.N[i]? = some x) (hx:X.env.scope.names.lookup x = some .local) (hc:X.calm = true) (hk:compOk sc X.env.scope N' X.N cap = true) (hi:PI X tg iter wi)
  (hg:∀ cl C s H fp, PG (compCx X sc cl C N' s H fp) tg g) (ht:∀ cl C s H fp, PTs (compCx X sc cl C N' s H fp) ifs tc) (he:∀ cl C s H fp, PE (compCx X sc cl C N' s H fp) elt te)
  (hsw:swapsWith (.ListComp elt [⟨tg, iter, ifs, 0⟩] sc pos) (some (.Name x px)) spos.line X.env = pure true) (hs:∀ x, foldedSetIterable iter X.env x = pure x:=by intro _; rfl) :
  PS X (.Assign [.Name x px] (.ListComp elt [⟨tg, iter, ifs, 0⟩] sc pos) spos) (tSetLc i (tLc cap wi g tc te)):=by
 intro pins s σ H D I h
 have F:=compFacts hk
 obtain ⟨cl, ecl, hcl, hcl2⟩:=compFacts_cl I F
 rw [exec_Assign_Name_used _ _ _ _ hsw]
 refine wpAny_bind (wpAny_standAt (wpAny_bind ?_))
 show wpAny _ X.A (do let _ ← comprehension (.ListComp elt [⟨tg, iter, ifs, 0⟩] sc pos) sc X.env _ (newList []) false (eval iter X.env) (some (assign (.Name x px) X.env))) _ _ s
 refine wpAny_bind (wpAny_mono (wpAny_comprehension_free (use:=some (assign (.Name x px) X.env)) (Q:=fun _ s'=>SP X pins D .next s') rfl hs ecl F.kind F.names
  (thn (hi pins s σ H _ I h) fun v s1 h1=>thn h1 fun itv s2 h2=>?_)) (fun _ s' hq=>wpAny_pure (wpAny_pure hq)) fun _ _ e=>e)
 obtain ⟨it, fp, tn, J, H2, e, I2, T, st2, f2, W, ⟨m0, w0⟩, turn⟩:=h2
 subst e
 refine comp_block (Qv:=fun v H1=>D.nx (σ.set i (some v)) H1) hc I2 F hcl hcl2 hg ht he T st2 f2 w0 turn (RR:=fun acc C=>compPost (model X.prog X.w) X.A X.xe (some (assign (.Name x px) X.env)) (fun _ s'=>SP X pins D .next s') acc C) ?_
 intro Dl C m H' s' hC hn I' fC q
 show wpAny _ X.A (assign (.Name x px) X.env (.ref Dl)) _ _ s'
 refine wpAny_assign_Name (store_ok2 I' hN hi' (.inl hx) (v:=.ref Dl) rfl (fun s'' I'' ⟨a, sb, ha⟩=>?_) (.inr hx))
 obtain ⟨g0, g1, _, g3, g4, g5⟩:=fC
 have hCa:C ≠ a:=by
  rcases ha with e | e
  ·rw [e]; exact g1
  ·exact Ne.symm (g4 x a e)
 refine ⟨m, hn.sameBut sb hCa, fun h' hs'=>⟨σ.set i (some (.ref Dl)), H', ?_, q⟩⟩
 exact I''.turned (t':=s''.toks) (fun b o hb e=>(hs'.2 b hb).trans e) g0 g1 g3 g4 g5
end
end L2

namespace L2
open PySem PySem.W PyProof.Rows
def KOk (o:Nat -> Nat -> Bool) (n:Nat) {α:Type}:KasT α -> (α -> Prop) -> Prop
 | .ret a, Q=>Q a
 | .ask i j k, Q=>i < n ∧ j < n ∧ i ≠ j ∧ KOk o n (k (o i j)) Q
theorem KOk.bind {o:Nat -> Nat -> Bool} {n:Nat} {α β:Type} {f:α -> KasT β} {Q:β -> Prop}:∀ (t:KasT α), KOk o n t (fun a=>KOk o n (f a) Q) -> KOk o n (t.bind f) Q
 | .ret a, h=>h
 | .ask i j k, ⟨h1, h2, h0, h3⟩=>⟨h1, h2, h0, KOk.bind (k (o i j)) h3⟩
theorem KOk.mono {o:Nat -> Nat -> Bool} {n:Nat} {α:Type} {Q Q':α -> Prop} (hq:∀ a, Q a -> Q' a):∀ (t:KasT α), KOk o n t Q -> KOk o n t Q'
 | .ret a, h=>hq a h
 | .ask i j k, ⟨h1, h2, h0, h3⟩=>⟨h1, h2, h0, KOk.mono hq (k (o i j)) h3⟩
theorem KOk.wp {o:Nat -> Nat -> Bool} {n:Nat} {α:Type} {Q:α -> Prop} {G:α -> Shared -> Prop} {cmp:Nat -> Nat -> (Bool -> Shared -> Prop) -> Shared -> Prop} {s:Shared}
  (hc:∀ i j, i < n -> j < n -> i ≠ j -> ∀ C:Bool -> Shared -> Prop, C (o i j) s -> cmp i j C s) (hq:∀ a, Q a -> G a s):∀ (t:KasT α), KOk o n t Q -> t.kasWp cmp G s
 | .ret a, h=>hq a h
 | .ask i j k, ⟨h1, h2, h0, h3⟩=>hc i j h1 h2 h0 _ (KOk.wp hc hq (k (o i j)) h3)
structure SOrd (o:Nat -> Nat -> Bool) (n:Nat):Prop where
 irr:∀ i, i < n -> o i i = false
 tr:∀ i j k, i < n -> j < n -> k < n -> o i j = true -> o j k = true -> o i k = true
 tot:∀ i j, i < n -> j < n -> i ≠ j -> o i j = true ∨ o j i = true
section
variable {o:Nat -> Nat -> Bool} {n:Nat}
structure PermN (n:Nat) (p:Array Nat):Prop where
 perm:p.toList.Perm (List.range n)
theorem PermN.size {p:Array Nat} (h:PermN n p):p.size = n:=by
 have:=h.perm.length_eq
 simpa using this
theorem PermN.lt {p:Array Nat} (h:PermN n p) {i:Nat} (hi:i < n):p.getD i 0 < n:=by
 have hs:=h.size
 have e:p.getD i 0 = p.toList[i]'(by simpa [hs] using hi):=by simp [Array.getD, hs, hi]
 rw [e]
 have:=h.perm.mem_iff.mp (List.getElem_mem (l:=p.toList) (n:=i) (by simpa [hs] using hi))
 exact List.mem_range.mp this
theorem PermN.inj {p:Array Nat} (h:PermN n p) {i j:Nat} (hi:i < n) (hj:j < n) (hij:i ≠ j):p.getD i 0 ≠ p.getD j 0:=by
 have hs:=h.size
 have nd:p.toList.Nodup:=h.perm.nodup_iff.mpr List.nodup_range
 have ei:p.getD i 0 = p.toList[i]'(by simpa [hs] using hi):=by simp [Array.getD, hs, hi]
 have ej:p.getD j 0 = p.toList[j]'(by simpa [hs] using hj):=by simp [Array.getD, hs, hj]
 rw [ei, ej]
 intro e
 exact hij ((List.getElem_inj nd).mp e)
theorem PermN.of {p q:Array Nat} (h:PermN n p) (e:q.Perm p):PermN n q:=⟨(Array.perm_iff_toList_perm.mp e).trans h.perm⟩
theorem PermN.start:PermN n (List.toArray (List.range n)):=⟨by simp⟩
def Rise (o:Nat -> Nat -> Bool) (p:Array Nat) (k:Nat):Prop:=∀ i j, i < j -> j < k -> o (p.getD i 0) (p.getD j 0) = true
def Fall (o:Nat -> Nat -> Bool) (p:Array Nat) (k:Nat):Prop:=∀ i j, i < j -> j < k -> o (p.getD j 0) (p.getD i 0) = true
theorem SOrd.flip (O:SOrd o n) {p:Array Nat} (P:PermN n p) {i j:Nat} (hi:i < n) (hj:j < n) (hij:i ≠ j) (h:o (p.getD i 0) (p.getD j 0) = false):o (p.getD j 0) (p.getD i 0) = true:=by
 rcases O.tot _ _ (P.lt hi) (P.lt hj) (P.inj hi hj hij) with e | e
 ·rw [h] at e; cases e
 ·exact e
theorem asc_ok (O:SOrd o n) {p:Array Nat} (P:PermN n p):∀ (f m:Nat), 1 ≤ m -> m + f ≤ n -> Rise o p m ->
  KOk o n (kas_asc p f m) (fun r=>m ≤ r ∧ r ≤ m + f ∧ Rise o p r ∧ (r = m + f ∨ o (p.getD r 0) (p.getD (r - 1) 0) = true))
 | 0, m, h1, _, hr=>⟨Nat.le_refl _, Nat.le_refl _, hr, .inl rfl⟩
 | f + 1, m, h1, h2, hr=>by
   unfold kas_asc
   refine ⟨P.lt (by omega), P.lt (by omega), P.inj (by omega) (by omega) (by omega), ?_⟩
   cases e:o (p.getD m 0) (p.getD (m - 1) 0) with
   | true=>exact ⟨Nat.le_refl _, by omega, hr, .inr e⟩
   | false=>
     dsimp only
     rw [if_neg (by simp)]
     have e':=O.flip P (by omega) (by omega) (by omega) e
     refine KOk.mono (fun r ⟨a, b, c, d⟩=>⟨by omega, by omega, c, ?_⟩) _ (asc_ok O P f (m + 1) (by omega) (by omega) ?_)
     ·intro i j hij hj
      by_cases hjm:j = m
      ·subst hjm
       by_cases him:i = j - 1
       ·rw [him]; exact e'
       ·exact O.tr _ _ _ (P.lt (by omega)) (P.lt (by omega)) (P.lt (by omega)) (hr i (j - 1) (by omega) (by omega)) e'
      ·exact hr i j hij (by omega)
     ·rcases d with d | d
      ·exact .inl (by omega)
      ·exact .inr d
theorem desc_ok (O:SOrd o n) {p:Array Nat} (P:PermN n p):∀ (f m:Nat), 2 ≤ m -> m + f ≤ n -> Fall o p m ->
  KOk o n (kas_desc f p m 0) (fun r=>r.1 = p ∧ r.2.2 = 0 ∧ m ≤ r.2.1 ∧ r.2.1 ≤ m + f ∧ Fall o p r.2.1)
 | 0, m, _, _, hf=>⟨rfl, rfl, Nat.le_refl _, Nat.le_refl _, hf⟩
 | f + 1, m, h1, h2, hf=>by
   unfold kas_desc
   refine ⟨P.lt (by omega), P.lt (by omega), P.inj (by omega) (by omega) (by omega), ?_⟩
   cases e:o (p.getD m 0) (p.getD (m - 1) 0) with
   | true=>
     dsimp only
     rw [if_pos rfl, if_neg (by omega)]
     refine KOk.mono (fun r ⟨a, b, c, d, g⟩=>⟨a, b, by omega, by omega, g⟩) _ (desc_ok O P f (m + 1) (by omega) (by omega) ?_)
     intro i j hij hj
     by_cases hjm:j = m
     ·subst hjm
      by_cases him:i = j - 1
      ·rw [him]; exact e
      ·exact O.tr _ _ _ (P.lt (by omega)) (P.lt (by omega)) (P.lt (by omega)) e (hf i (j - 1) (by omega) (by omega))
     ·exact hf i j hij (by omega)
   | false=>
     dsimp only
     rw [if_neg (by simp)]
     have e':=O.flip P (by omega) (by omega) (by omega) e
     refine ⟨P.lt (by omega), P.lt (by omega), P.inj (by omega) (by omega) (by omega), ?_⟩
     dsimp only
     rw [if_pos e']
     exact ⟨rfl, rfl, Nat.le_refl _, Nat.le_add_right _ _, hf⟩
theorem getD_of {p:Array Nat} {i:Nat}:p.getD i 0 = (p[i]?).getD 0:=by
 simp [Array.getD_eq_getD_getElem?]
theorem rev_rise {p:Array Nat} {m:Nat} (hm:m ≤ p.size) (hf:Fall o p m):Rise o (kas_rev p 0 m) m:=by
 intro i j hij hj
 have key:∀ k, k < m -> (kas_rev p 0 m).getD k 0 = p.getD (m - 1 - k) 0:=fun k hk=>by
  rw [getD_of, getD_of]
  unfold kas_rev
  rw [Nat.sub_zero]
  have q:=getElem?_mirror_all (xs:=p) (i:=0) (j:=m) hm k
  rw [Nat.sub_zero] at q
  rw [q, if_pos ⟨Nat.zero_le _, hk⟩, Nat.zero_add]
 rw [key i (by omega), key j hj]
 exact hf _ _ (by omega) (by omega)
theorem rev_perm {p:Array Nat} (P:PermN n p) (i j:Nat):PermN n (kas_rev p i j):=P.of (mirror_perm _ _ _ _)
theorem tail3_ok (O:SOrd o n) {p:Array Nat} (P:PermN n p) {m:Nat} (h1:1 ≤ m) (h2:m ≤ n) (hf:Fall o p m) :
  KOk o n (kas_tail3 m n p) (fun r=>1 ≤ r.1 ∧ r.1 ≤ n ∧ PermN n r.2 ∧ Rise o r.2 r.1):=by
 unfold kas_tail3
 refine KOk.bind _ (KOk.mono (fun r ⟨a, b, c, _⟩=>?_) _ (asc_ok O (rev_perm P 0 m) (n - m) m h1 (by omega) (rev_rise (by rw [P.size]; exact h2) hf)))
 exact ⟨by show 1 ≤ r; omega, by show r ≤ n; omega, rev_perm P 0 m, c⟩
theorem count_ok (O:SOrd o n) {p:Array Nat} (P:PermN n p) (hn:1 ≤ n):KOk o n (kas_count n p) (fun r=>1 ≤ r.1 ∧ r.1 ≤ n ∧ PermN n r.2 ∧ Rise o r.2 r.1):=by
 unfold kas_count
 refine KOk.bind _ (KOk.mono (fun m ⟨a, b, c, d⟩=>?_) _ (asc_ok O P (n - 1) 1 (Nat.le_refl _) (by omega) (fun i j hij hj=>by omega)))
 by_cases e:m = n
 ·rw [if_pos (by simp [e])]
  exact ⟨by omega, by omega, P, c⟩
 ·rw [if_neg (by simp [e])]
  by_cases hm:m > 1
  ·rw [if_pos hm]
   refine ⟨P.lt (by omega), P.lt (by omega), P.inj (by omega) (by omega) (by omega), ?_⟩
   dsimp only
   rw [if_pos (c 0 (m - 1) (by omega) (by omega))]
   exact ⟨by omega, by omega, P, c⟩
  ·rw [if_neg hm]
   have hm1:m = 1:=by omega
   subst hm1
   have d':o (p.getD 1 0) (p.getD 0 0) = true:=by
    rcases d with d | d
    ·omega
    ·exact d
   unfold kas_descPart
   refine KOk.bind _ (KOk.mono (fun r ⟨a1, a2, a3, a4, a5⟩=>?_) _ (desc_ok O P (n - (1 + 1)) (1 + 1) (by omega) (by omega) ?_))
   ·intro i j hij hj
    have:i = 0:=by omega
    have:j = 1:=by omega
    subst i j
    exact d'
   ·rw [if_neg (by omega)]
    rw [a1]
    exact tail3_ok O P (by omega) (by omega) a5
theorem place_ok (O:SOrd o n) {p:Array Nat} (P:PermN n p) {k:Nat} (hk:k < n) (hr:Rise o p k):∀ (f l r:Nat), r - l ≤ f -> l ≤ r -> r ≤ k ->
  (∀ i, i < l -> o (p.getD i 0) (p.getD k 0) = true) -> (∀ i, r ≤ i -> i < k -> o (p.getD k 0) (p.getD i 0) = true) ->
  KOk o n (kas_place p k f l r) (fun q=>q ≤ k ∧ (∀ i, i < q -> o (p.getD i 0) (p.getD k 0) = true) ∧ ∀ i, q ≤ i -> i < k -> o (p.getD k 0) (p.getD i 0) = true)
 | 0, l, r, h0, h1, h2, ha, hb=>by
   have:r = l:=by omega
   subst this
   exact ⟨h2, ha, hb⟩
 | f + 1, l, r, h0, h1, h2, ha, hb=>by
   unfold kas_place
   by_cases hlr:l ≥ r
   ·rw [if_pos hlr]
    have:r = l:=by omega
    subst this
    exact ⟨h2, ha, hb⟩
   ·rw [if_neg hlr]
    have hm1:l ≤ (l + r) / 2:=by omega
    have hm2:(l + r) / 2 < r:=by omega
    refine ⟨P.lt hk, P.lt (by omega), P.inj hk (by omega) (by omega), ?_⟩
    cases e:o (p.getD k 0) (p.getD ((l + r) / 2) 0) with
    | true=>
      dsimp only
      rw [if_pos rfl]
      refine place_ok O P hk hr f l _ (by omega) hm1 (by omega) ha fun i hi hik=>?_
      by_cases hi2:i = (l + r) / 2
      ·rw [hi2]; exact e
      ·exact O.tr _ _ _ (P.lt hk) (P.lt (by omega)) (P.lt (by omega)) e (hr _ i (by omega) hik)
    | false=>
      dsimp only
      rw [if_neg (by simp)]
      have e':=O.flip P hk (by omega) (by omega) e
      refine place_ok O P hk hr f _ r (by omega) (by omega) h2 (fun i hi=>?_) hb
      by_cases hi2:i = (l + r) / 2
      ·rw [hi2]; exact e'
      ·exact O.tr _ _ _ (P.lt (by omega)) (P.lt (by omega)) (P.lt hk) (hr i ((l + r) / 2) (by omega) (by omega)) e'
theorem bubble_rise (O:SOrd o n) {p:Array Nat} (P:PermN n p) {k l:Nat} (hk:k < n) (hr:Rise o p k) (hl:l ≤ k) (ha:∀ i, i < l -> o (p.getD i 0) (p.getD k 0) = true) (hb:∀ i, l ≤ i -> i < k -> o (p.getD k 0) (p.getD i 0) = true) :
  Rise o (bubble p k (k - l)) (k + 1):=by
 have key:∀ i, (bubble p k (k - l)).getD i 0 = if i = l then p.getD k 0 else if l < i ∧ i ≤ k then p.getD (i - 1) 0 else p.getD i 0:=fun i=>by
  rw [getD_of, getElem?_bubble (by rw [P.size]; exact hk) (k - l) (by omega)]
  have e:k - (k - l) = l:=by omega
  rw [e]
  by_cases h1:i = l
  ·rw [if_pos h1, if_pos h1, getD_of]
  ·rw [if_neg h1, if_neg h1]
   by_cases h2:l < i ∧ i ≤ k
   ·rw [if_pos h2, if_pos h2, getD_of]
   ·rw [if_neg h2, if_neg h2, getD_of]
 intro i j hij hj
 rw [key i, key j]
 by_cases i1:i = l
 ·rw [if_pos i1, if_neg (by omega), if_pos (by omega)]
  exact hb _ (by omega) (by omega)
 ·rw [if_neg i1]
  by_cases j1:j = l
  ·rw [if_pos j1, if_neg (by omega)]
   exact ha i (by omega)
  ·rw [if_neg j1]
   by_cases i2:l < i ∧ i ≤ k
   ·rw [if_pos i2, if_pos (by omega)]
    exact hr _ _ (by omega) (by omega)
   ·rw [if_neg i2]
    by_cases j2:l < j ∧ j ≤ k
    ·rw [if_pos j2]
     by_cases e:i = j - 1
     ·omega
     ·exact hr _ _ (by omega) (by omega)
    ·rw [if_neg j2]
     exact hr _ _ hij (by omega)
theorem bin_ok (O:SOrd o n):∀ (f:Nat) {p:Array Nat} (P:PermN n p) (k:Nat), k + f = n -> Rise o p k -> KOk o n (kas_bin f p k) (fun q=>PermN n q ∧ Rise o q n)
 | 0, p, P, k, e, hr=>by
   have:k = n:=by omega
   subst this
   exact ⟨P, hr⟩
 | f + 1, p, P, k, e, hr=>by
   unfold kas_bin
   refine KOk.bind _ (KOk.mono (fun l ⟨a, b, c⟩=>?_) _ (place_ok O P (k:=k) (by omega) hr k 0 k (by omega) (Nat.zero_le _) (Nat.le_refl _) (fun i hi=>by omega) (fun i h1 h2=>by omega)))
   exact bin_ok O f (P.of (bubble_perm _ _ _)) (k + 1) (by omega) (bubble_rise O P (by omega) hr a b c)
theorem sort_ok (O:SOrd o n) (hn:1 ≤ n):KOk o n (kas_sort n) (fun q=>PermN n q ∧ Rise o q n):=by
 unfold kas_sort
 refine KOk.bind _ (KOk.mono (fun r ⟨a, b, c, d⟩=>?_) _ (count_ok O PermN.start hn))
 by_cases h:r.1 < n
 ·rw [if_pos h]
  have e:max r.1 1 = r.1:=by omega
  rw [e]
  exact bin_ok O _ c _ (by omega) d
 ·rw [if_neg h]
  have:r.1 = n:=by omega
  rw [this] at d
  exact ⟨c, d⟩
end
end L2

namespace L2
open PySem PySem.W PyProof.Rows
section
variable {prog:Program} {w:World} {A:Around} {E:Value -> Shared -> Prop} {s:Shared}
def KeysAt (prog:Program) (w:World) (A:Around) (ks:List Value) (o:Nat -> Nat -> Bool) (s:Shared):Prop:=
 ∃ κ, (∀ (Q:SortKind -> Shared -> Prop) (E:Value -> Shared -> Prop), Q κ s -> wpAny (model prog w) A (keyKind' ks.toArray) Q E s) ∧
  ∀ i j, i < ks.length -> j < ks.length -> i ≠ j -> ∀ C:Bool -> Shared -> Prop, C (o i j) s -> kas_ask prog w A κ ks i j C s
theorem sort_heart {ks vs:List Value} {o:Nat -> Nat -> Bool} {β:Type} {Q:β -> Shared -> Prop} {f:Unit × SortSt -> Sem β} (hl:ks.length = vs.length) (h64:vs.length < 64) (O:SOrd o vs.length) (hk:2 ≤ vs.length -> KeysAt prog w A ks o s)
  (h:∀ (p:Array Nat) (st:SortSt), PermN vs.length p -> Rise o p vs.length -> arrOf st = p.map (kas_item (ks.toArray.zip vs.toArray)) -> failedOf st = none -> wpAny (model prog w) A (f ((), st)) Q E s) :
  wpAny (model prog w) A (do
   let kind ← if vs.toArray.size < 2 then pure general' else keyKind' ks.toArray
   let r ← (if vs.toArray.size < 2 then pure () else sortRuns').run (SortSt.mk' kind (ks.toArray.zip vs.toArray) #[] 7 none)
   f r) Q E s:=by
 by_cases h2:vs.toArray.size < 2
 ·rw [if_pos h2, if_pos h2]
  have h2':vs.length < 2:=by simpa using h2
  refine wpAny_bind (wpAny_pure ?_)
  dsimp only
  rw [StateT.run_pure]
  refine wpAny_bind (wpAny_pure (h (List.toArray (List.range vs.length)) _ PermN.start (fun i j hij hj=>by omega) ?_ rfl))
  have e:=kas_range (ks.toArray.zip vs.toArray)
  rw [show (ks.toArray.zip vs.toArray).size = vs.length by simp [hl]] at e
  exact e.symm
 ·rw [if_neg h2, if_neg h2]
  have h2':2 ≤ vs.length:=by
   have:¬ vs.length < 2:=by simpa using h2
   omega
  obtain ⟨κ, hκ, hc⟩:=hk h2'
  refine wpAny_bind (hκ _ _ ?_)
  have tree:(kas_sort vs.length).kasWp (kas_ask prog w A κ ks) (fun p s'=>s' = s ∧ PermN vs.length p ∧ Rise o p vs.length) s:=
   KOk.wp (fun i j hi hj hij C hC=>hc i j (by omega) (by omega) hij C hC) (fun p hp=>⟨rfl, hp.1, hp.2⟩) _ (sort_ok O (by omega))
  refine wpAny_bind (wpAny_mono (kat_run (E:=E) (Q:=fun st s'=>∃ p:Array Nat, s' = s ∧ PermN vs.length p ∧ Rise o p vs.length ∧ arrOf st = p.map (kas_item (ks.toArray.zip vs.toArray)) ∧ failedOf st = none) hl h2' h64
   (fun p st s' _ a2 a3 a4=>⟨p, a4.1, a4.2.1, a4.2.2, a2, a3⟩) tree) ?_ fun _ _ e=>e)
  rintro ⟨⟨⟩, st⟩ s' ⟨p, rfl, hp, hr, ha, hf⟩
  exact h p st hp hr ha hf
theorem out_items {ks vs:List Value} (hl:ks.length = vs.length) {st:SortSt} {p:Array Nat} (har:arrOf st = p.map (kas_item (ks.toArray.zip vs.toArray))):(arrOf st).map (·.2) = List.toArray (p.toList.map fun i=>vs.getD i Value.none):=kat_snds hl har
theorem sort_plain {D:Addr} {vs:List Value} {n:Nat} {o:Nat -> Nat -> Bool} {P:PySem.Fin -> Shared -> Prop} (ho:s.heap.get? D = some (seqObj "list" vs.toArray n)) (h64:vs.length < 64) (O:SOrd o vs.length)
  (hk:2 ≤ vs.length -> ∀ h':Heap, (∀ b u, b ≠ D -> s.heap.get? b = some u -> h'.get? b = some u) -> KeysAt prog w A vs o { s with heap:=h' })
  (h:∀ (h':Heap) (p:Array Nat) (c:Nat), PermN vs.length p -> Rise o p vs.length -> (∀ b u, b ≠ D -> s.heap.get? b = some u -> h'.get? b = some u) -> h'.get? D = some (seqObj "list" (List.toArray (p.toList.map fun i=>vs.getD i Value.none)) c) -> P (.done (.ret .none)) { s with heap:=h' }) :
  wpAny (model prog w) A (Builtin.«list.sort» ⟨[.ref D], []⟩) P E s:=by
 have hD:D < s.heap.objs.size:=Heap.lt_size ho
 have s1:=Heap.SameBut.update s.heap D (Obj.mapSeq fun _=>(#[]:Array Value))
 obtain ⟨e1, ho1⟩:∃ e1, (s.heap.update D (Obj.mapSeq fun _=>(#[]:Array Value))).get? D = some (seqObj "list" #[] e1):=⟨_, get?_update_seq ho fun _=>#[]⟩
 have line:vs.length ≤ sizeLine:=by rw [sizeLine_eq]; omega
 rw [list_sort_plain]
 refine wpAny_bind (listItems_at ho rfl ?_)
 refine wpAny_bind (listUpdate_at ho rfl ?_ (by rw [List.size_toArray]; exact line) (Nat.zero_le _))
 refine wpAny_bind (seqEpoch_at ho1 rfl (wpAny_bind (wpAny_newTuple ?_ line)))
 refine wpAny_bind (wpAny_newList (wpAny_holding ?_) (Nat.zero_le _))
 dsimp only
 generalize hg:((s.heap.update D (Obj.mapSeq fun _=>(#[]:Array Value))).push _).push _ = h2
 have ho2:h2.get? D = some (seqObj "list" #[] e1):=by rw [← hg]; exact Heap.get?_push_of_some _ (Heap.get?_push_of_some _ ho1)
 have kp:∀ b u, b ≠ D -> s.heap.get? b = some u -> h2.get? b = some u:=fun b u hb e=>by rw [← hg]; exact Heap.get?_push_of_some _ (Heap.get?_push_of_some _ ((s1.2 b hb).trans e))
 refine sort_heart (s:={ s with heap:=h2 }) rfl h64 O (fun z=>hk z h2 kp) fun p st hp hr ha hf=>?_
 dsimp only
 have hsz:(List.toArray (p.toList.map fun i=>vs.getD i Value.none)).size = vs.length:=by rw [List.size_toArray, List.length_map, Array.length_toList, hp.size]
 rw [out_items rfl ha]
 have s2:=Heap.SameBut.update h2 D (Obj.mapSeq fun _=>List.toArray (p.toList.map fun i=>vs.getD i Value.none))
 refine wpAny_bind (seqEpoch_at ho2 rfl ?_)
 refine wpAny_bind (listUpdate_at ho2 rfl ?_ (Nat.zero_le _) (Nat.le_trans (Nat.le_of_eq hsz) (Nat.le_succ_of_le line)))
 rw [hf]
 simp only [bne_self_eq_false, Bool.false_eq_true, if_false]
 exact wpAny_pure (h _ p _ hp hr (fun b u hb e=>(s2.2 b hb).trans (kp b u hb e)) (get?_update_seq ho2 fun _=>List.toArray (p.toList.map fun i=>vs.getD i Value.none)))
theorem sorted_from {x:Value} {xs:List V} {o:Nat -> Nat -> Bool} {Q:Value -> Shared -> Prop} (h64:xs.length < 64) (O:SOrd o xs.length)
  (hcol:∀ (R:List Value -> Shared -> Prop) (E:Value -> Shared -> Prop), (∀ (h':Heap) (tk:Nat) (vs:List Value), Vals xs vs -> (∀ b u, s.heap.get? b = some u -> h'.get? b = some u) -> R vs { s with heap:=h', toks:=tk }) -> wpAny (model prog w) A.in1 (collect x) R E s)
  (hk:2 ≤ xs.length -> ∀ (h':Heap) (tk:Nat) (vs:List Value), Vals xs vs -> (∀ b u, s.heap.get? b = some u -> h'.get? b = some u) -> KeysAt prog w A.in1.in1 vs o { s with heap:=h', toks:=tk })
  (h:∀ (D:Addr) (h1 h':Heap) (tk:Nat) (vs:List Value) (p:Array Nat) (c:Nat), Vals xs vs -> PermN xs.length p -> Rise o p xs.length -> (∀ b u, s.heap.get? b = some u -> h1.get? b = some u) -> h1.objs.size ≤ D -> (∀ b u, h1.get? b = some u -> h'.get? b = some u) ->
    h'.get? D = some (seqObj "list" (List.toArray (p.toList.map fun i=>vs.getD i Value.none)) c) -> Q (.ref D) { s with heap:=h', toks:=tk }) :
  wpAny (model prog w) A (call (.builtin "sorted") [x]) Q E s:=by
 refine Calls.call_function_entry kind_sorted plain_sorted entry_sorted (args_sorted1 _) ?_
 unfold Builtin.«sorted»
 refine wpAny_bind (m:=checkCount "sorted" 1 1 _) (wpAny_pure (wpAny_bind (hcol _ _ fun h1 tk vs rv k1=>?_)))
 have hl:xs.length = vs.length:=rv.length
 have line:vs.length ≤ sizeLine:=by rw [sizeLine_eq]; omega
 refine wpAny_bind (wpAny_newList ?_ line)
 have hoL:(h1.push { cls:=.type "list", data:=.seq vs.toArray }).get? h1.objs.size = some (seqObj "list" vs.toArray 0):=Heap.get?_push_size _ rfl
 refine wpAny_bind (wpAny_holding (wpAny_call_entry slot_list_sort ⟨_, hoL, rfl⟩ entry_list_sort ?_ (args_list_sort _)))
 have nD:∀ b u, s.heap.get? b = some u -> b ≠ h1.objs.size:=fun b u e=>Nat.ne_of_lt (Heap.lt_size (k1 b u e))
 refine sort_plain (s:={ s with heap:=h1.push { cls:=.type "list", data:=.seq vs.toArray }, toks:=tk }) (o:=o) hoL (by omega) (by rw [← hl]; exact O) (fun z h' kp=>hk (by omega) h' tk vs rv fun b u e=>kp b u (nD b u e) (Heap.get?_push_of_some _ (k1 b u e))) fun h' p c hp hr kp hD=>?_
 exact ⟨_, rfl, wpAny_pure ⟨_, rfl, h _ h1 h' tk vs p c rv (by rw [hl]; exact hp) (by rw [hl]; exact hr) k1 (Nat.le_refl _) (fun b u e=>kp b u (Nat.ne_of_lt (Heap.lt_size e)) (Heap.get?_push_of_some _ e)) hD⟩⟩
theorem lex_ints {b fin:Bool} {Q:Bool -> Shared -> Prop}:∀ (ns ms:List Int) (us ws:List Value) (ta tb:List V) (i:Nat), Vals (ns.map V.int ++ ta) us -> Vals (ms.map V.int ++ tb) ws -> ns.length = ms.length -> ns ≠ ms -> Q (HT.lexLt ns ms) s ->
  KatLex prog w A b fin Q (us.zip ws) i s
 | [], [], _, _, _, _, _, _, _, _, hne, _=>absurd rfl hne
 | [], _ :: _, _, _, _, _, _, _, _, hl, _, _=>by simp at hl
 | _ :: _, [], _, _, _, _, _, _, _, hl, _, _=>by simp at hl
 | x :: ns, y :: ms, us, ws, ta, tb, i, r1, r2, hl, hne, hq=>by
   cases r1 with
   | cons a1 r1=>
     cases r2 with
     | cons a2 r2=>
       obtain ⟨t, rfl⟩:=a1
       obtain ⟨u, rfl⟩:=a2
       rw [List.zip_cons_cons]
       refine kat_cons (wpAny_eqBool_int ?_)
       rw [HT.lexLt_cons] at hq
       by_cases e:x = y
       ·subst e
        rw [if_pos rfl] at hq
        rw [show (x == x) = true by simp]
        refine kat_yes (lex_ints ns ms _ _ ta tb (i + 1) r1 r2 (by simpa using hl) (fun z=>hne (by rw [z])) hq)
       ·rw [if_neg e] at hq
        rw [show (x == y) = false by simp [e]]
        refine kat_no ?_
        cases (b && i == 0) with
        | true=>exact oneLt_int hq
        | false=>exact kat_one _ _ (lt_int (show PySem.W.BoolBack Q (.bool (decide (x < y))) s from hq))
def TupKeys (h:Heap) (ks:List Value) (nss:List (List Int)):Prop:=Paired (fun (k:Value) (ns:List Int)=>∃ a us ta, k = .ref a ∧ IsTup h a (List.toArray us) ∧ Vals (ns.map V.int ++ ta) us) ks nss
theorem TupKeys.get {h:Heap}:∀ {ks:List Value} {nss:List (List Int)}, TupKeys h ks nss -> ∀ i, i < ks.length -> ∃ a us ta, ks.getD i .none = .ref a ∧ IsTup h a (List.toArray us) ∧ Vals ((nss.getD i []).map V.int ++ ta) us
 | _, _, .nil, i, hi=>by simp at hi
 | _, _, .cons r _, 0, _=>r
 | _, _, .cons _ t, i + 1, hi=>TupKeys.get t i (by simpa using hi)
theorem TupKeys.firsts {h:Heap}:∀ {ks:List Value} {nss:List (List Int)}, TupKeys h ks nss -> (∀ ns ∈ nss, ns ≠ []) -> ∃ fs, KatTups h ks fs ∧ fs.length = ks.length ∧ ∀ v ∈ fs, ∃ x t, v = Value.int x t
 | _, _, .nil, _=>⟨[], trivial, rfl, fun v hv=>by simp at hv⟩
 | k :: ks, ns :: nss, .cons r t, hne=>by
   obtain ⟨a, us, ta, rfl, ⟨o, ho, hc, n, hd⟩, rv⟩:=r
   obtain ⟨fs, h1, h2, h3⟩:=TupKeys.firsts (ks:=ks) (nss:=nss) t fun z hz=>hne z (List.mem_cons_of_mem _ hz)
   have hn0:=hne ns List.mem_cons_self
   cases ns with
   | nil=>exact absurd rfl hn0
   | cons x ns=>
     cases rv with
     | cons a1 rv=>
       obtain ⟨t', rfl⟩:=a1
       refine ⟨.int x t' :: fs, KatTups.cons ho hc hd (by simp) h1, by simp [h2], fun v hv=>?_⟩
       rcases List.mem_cons.mp hv with rfl | hv
       ·exact ⟨x, t', rfl⟩
       ·exact h3 v hv
theorem keysAt_tuples {ks:List Value} {nss:List (List Int)} {k:Nat} (T:TupKeys s.heap ks nss) (hne:0 < ks.length) (hk:0 < k) (hlen:∀ ns ∈ nss, ns.length = k) (hd:nss.Pairwise (· ≠ ·)) :
  KeysAt prog w A ks (fun i j=>HT.lexLt (nss.getD i []) (nss.getD j [])) s:=by
 have hl:ks.length = nss.length:=Paired.length T
 obtain ⟨fs, h1, h2, h3⟩:=T.firsts fun ns hns e=>by have:=hlen ns hns; rw [e] at this; simp at this; omega
 refine ⟨tuples' (Value.type "int" != Value.type "tuple"), fun Q E q=>kat_kind h1 (by omega) (T:=.type "int") (fun v hv=>?_) (by decide) q, fun i j hi hj hij C hC=>?_⟩
 ·obtain ⟨x, t, rfl⟩:=h3 v hv
  exact Looks.now
 ·obtain ⟨a, us, ta, e1, ⟨oa, ha, ca, na, da⟩, r1⟩:=T.get i hi
  obtain ⟨c, ws, tc, e2, ⟨oc, hc, cc, nc, dc⟩, r2⟩:=T.get j hj
  unfold kas_ask
  rw [e1, e2]
  have mi:nss.getD i [] ∈ nss:=by
   have hi':i < nss.length:=by omega
   rw [show nss.getD i [] = nss[i] by simp [hi']]
   exact List.getElem_mem _
  have mj:nss.getD j [] ∈ nss:=by
   have hj':j < nss.length:=by omega
   rw [show nss.getD j [] = nss[j] by simp [hj']]
   exact List.getElem_mem _
  have hd':nss.getD i [] ≠ nss.getD j []:=by
   have hi':i < nss.length:=by omega
   have hj':j < nss.length:=by omega
   rw [show nss.getD i [] = nss[i] by simp [hi'], show nss.getD j [] = nss[j] by simp [hj']]
   rcases Nat.lt_or_gt_of_ne hij with z | z
   ·exact List.pairwise_iff_getElem.mp hd i j hi' hj' z
   ·exact (List.pairwise_iff_getElem.mp hd j i hj' hi' z).symm
  refine kat_lt ha da hc dc ?_
  simp only [List.toList_toArray]
  exact lex_ints _ _ _ _ ta tc 0 r1 r2 (by rw [hlen _ mi, hlen _ mj]) hd' hC
theorem lexLt_irr:∀ ns:List Int, HT.lexLt ns ns = false
 | []=>rfl
 | x :: r=>by rw [HT.lexLt_cons, if_pos rfl]; exact lexLt_irr r
theorem lexLt_tr:∀ {a b c:List Int}, HT.lexLt a b = true -> HT.lexLt b c = true -> HT.lexLt a c = true
 | [], [], _, h, _=>by rw [HT.lexLt_nil_nil] at h; cases h
 | [], _ :: _, [], _, h=>by rw [HT.lexLt_cons_nil] at h; cases h
 | [], _ :: _, _ :: _, _, _=>HT.lexLt_nil_cons _ _
 | _ :: _, [], _, h, _=>by rw [HT.lexLt_cons_nil] at h; cases h
 | _ :: _, _ :: _, [], _, h=>by rw [HT.lexLt_cons_nil] at h; cases h
 | x :: a, y :: b, z :: c, h1, h2=>by
   rw [HT.lexLt_cons] at h1 h2 ⊢
   by_cases e1:x = y
   ·subst e1
    rw [if_pos rfl] at h1
    by_cases e2:x = z
    ·rw [if_pos e2] at h2 ⊢
     exact lexLt_tr h1 h2
    ·rw [if_neg e2] at h2 ⊢
     exact h2
   ·rw [if_neg e1] at h1
    have h1':=of_decide_eq_true h1
    by_cases e2:y = z
    ·subst e2
     rw [if_neg e1]
     exact h1
    ·rw [if_neg e2] at h2
     have h2':=of_decide_eq_true h2
     rw [if_neg (by omega)]
     exact decide_eq_true (by omega)
theorem lexLt_tot:∀ {a b:List Int}, a ≠ b -> HT.lexLt a b = true ∨ HT.lexLt b a = true
 | [], [], h=>absurd rfl h
 | [], _ :: _, _=>.inl (HT.lexLt_nil_cons _ _)
 | _ :: _, [], _=>.inr (HT.lexLt_nil_cons _ _)
 | x :: a, y :: b, h=>by
   rw [HT.lexLt_cons, HT.lexLt_cons]
   by_cases e:x = y
   ·subst e
    rw [if_pos rfl, if_pos rfl]
    exact lexLt_tot fun z=>h (by rw [z])
   ·rw [if_neg e, if_neg (Ne.symm e)]
    by_cases l:x < y
    ·exact .inl (decide_eq_true l)
    ·exact .inr (decide_eq_true (by omega))
theorem sOrd_lex {nss:List (List Int)} (hd:nss.Pairwise (· ≠ ·)):SOrd (fun i j=>HT.lexLt (nss.getD i []) (nss.getD j [])) nss.length where
 irr:=fun i _=>lexLt_irr _
 tr:=fun i j k _ _ _ h1 h2=>lexLt_tr h1 h2
 tot:=fun i j hi hj hij=>lexLt_tot (by
  rw [show nss.getD i [] = nss[i] by simp [hi], show nss.getD j [] = nss[j] by simp [hj]]
  rcases Nat.lt_or_gt_of_ne hij with z | z
  ·exact List.pairwise_iff_getElem.mp hd i j hi hj z
  ·exact (List.pairwise_iff_getElem.mp hd j i hj hi z).symm)
theorem perm_items {α:Type} {xs:List α} {d:α} {p:Array Nat} (P:PermN xs.length p):(p.toList.map fun i=>xs.getD i d).Perm xs:=by
 have h:=P.perm.map (fun i=>xs.getD i d)
 have e:(List.range xs.length).map (fun i=>xs.getD i d) = xs:=by
  apply List.ext_getElem
  ·simp
  ·intro i h1 h2
   simp at h1 ⊢
   simp [h1]
 rw [e] at h
 exact h
theorem rise_items {α:Type} {xs:List α} {d:α} {p:Array Nat} {o:Nat -> Nat -> Bool} {R:α -> α -> Prop} (P:PermN xs.length p) (hr:Rise o p xs.length) (ho:∀ i j, i < xs.length -> j < xs.length -> o i j = true -> R (xs.getD i d) (xs.getD j d)) :
  (p.toList.map fun i=>xs.getD i d).Pairwise R:=by
 rw [List.pairwise_map, List.pairwise_iff_getElem]
 intro i j hi hj hij
 have hs:=P.size
 have hi':i < xs.length:=by simpa [hs] using hi
 have hj':j < xs.length:=by simpa [hs] using hj
 have e1:p.getD i 0 = p.toList[i]:=by simp [Array.getD, hs, hi']
 have e2:p.getD j 0 = p.toList[j]:=by simp [Array.getD, hs, hj']
 have:=hr i j hij hj'
 rw [e1, e2] at this
 exact ho _ _ (by rw [← e1]; exact P.lt hi') (by rw [← e2]; exact P.lt hj') this
end
end L2

namespace L2
open PySem PySem.Spec PyProof.Rows
section
variable {X:Cx} {pins:List (Addr × Obj)} {σ:St} {H:Hp} {s:Shared}
theorem Inv.turns {fp:List Addr} {h':Heap} {t':Nat} (I:Inv X pins σ H s) (hf:∀ b ∈ fp, FpOk X pins H b) (k:∀ b o, b ∉ fp -> s.heap.get? b = some o -> h'.get? b = some o):Inv X pins σ H { s with heap:=h', toks:=t' }:=by
 have nfp:∀ b u, H b = some u -> b ∉ fp:=fun b u e z=>by rw [(hf b z).1] at e; cases e
 refine I.step (g':=s.gens) (d':=s.drawn) (ch:=fp) (fun b hb=>?_) (fun b o _ _ hc e _=>k b o hc e) (fun b o _ _ hc e _=>⟨o.slots, k b o hc e⟩) (fun _ _ _ _ n=>n)
  (fun b o hc e=>⟨o, k b o hc e⟩) (fun _ _ e=>e) (fun _ _ _ e=>e) (fun b ps e=>⟨#[], by rw [e]; simp⟩) (fun m hm=>?_) (fun b u e=>?_) I.bare
 ·obtain ⟨_, g1, _, g3, g4, g5⟩:=hf b hb
  exact ⟨g3, g1, g4, g5⟩
 ·obtain ⟨o, es, ep, ho, r⟩:=hm
  exact ⟨o, es, ep, k _ o (fun z=>(hf _ z).2.1 rfl) ho, r⟩
 ·refine (I.hok b u e).stay (fun c v hc q=>k c v ?_ q) (fun _ q=>q) fun _ _ q=>q
  rcases hc with z | z
  ·rw [z]; exact nfp b u e
  ·exact nfp c _ z
theorem Inv.track {D:Addr} {o:HO} (I:Inv X pins σ H s) (f:FpOk X pins H D) (new:ObjOk X.prog X.w (upd H D o) s.heap D o):Inv X pins σ (upd H D o) s:=by
 obtain ⟨f0, f1, f2, f3, f4, f5⟩:=f
 refine ⟨I.ok, I.os, I.bare, ⟨I.base.keep, I.base.slot, fun b ob e n hx=>?_, I.base.there, fun b xs e=>?_, fun b ob xs e=>?_, fun b ps e=>?_⟩, I.loc, I.cell, ?_, fun x c e=>?_, fun p hp=>?_, fun b ob e=>?_, I.len⟩
 ·have hb:b ≠ D:=fun z=>by
   subst z
   rcases f3 with z | z
   ·exact hx z
   ·exact absurd (Nat.lt_of_lt_of_le (Heap.lt_size e) z) (Nat.lt_irrefl _)
  rw [upd_ne hb]; exact I.base.free b ob e n hx
 ·have q:=I.base.tups b xs e
  rw [upd_ne (ne_of_none q f0)]; exact q
 ·have q:=I.base.frzs b ob xs e
  rw [upd_ne (ne_of_none q f0)]; exact q
 ·obtain ⟨m, q⟩:=I.base.tbls b ps e
  exact ⟨m, by rw [upd_ne (ne_of_none q f0)]; exact q⟩
 ·rw [upd_ne (Ne.symm f1)]; exact I.free
 ·rw [upd_ne (f4 x c e)]; exact I.freeC x c e
 ·obtain ⟨a1, a2, a3, a4, a5⟩:=I.pin p hp
  exact ⟨a1, by rw [upd_ne (f5 p hp)]; exact a2, a3, a4, a5⟩
 ·by_cases hb:b = D
  ·subst hb
   rw [upd_same] at e; cases e
   exact new
  ·rw [upd_ne hb] at e
   exact (I.hok b ob e).stay (fun _ _ _ q=>q) (fun c q=>by rw [upd_ne (ne_of_none q f0)]; exact q) fun c xs q=>by rw [upd_ne (ne_of_none q f0)]; exact q
theorem Inv.repin {D:Addr} {o o':Obj} {h':Heap} {t':Nat} {more:List (Addr × Obj)} (I:Inv X (pins ++ ((D, o) :: more)) σ H s) (f:FpOk X (pins ++ more) H D) (k:∀ b u, b ≠ D -> s.heap.get? b = some u -> h'.get? b = some u) (e:h'.get? D = some o') (hd:∀ v, o'.data ≠ .cell v) :
  Inv X (pins ++ ((D, o') :: more)) σ H { s with heap:=h', toks:=t' }:=by
 obtain ⟨f0, f1, f2, f3, f4, f5⟩:=f
 have I1:Inv X (pins ++ more) σ H s:=I.pins_of fun p hp=>I.pin p (List.mem_append_right _ (by
  rcases List.mem_append.mp hp with z | z
  ·exact List.mem_append_left _ z
  ·exact List.mem_append_right _ (List.mem_cons_of_mem _ z)))
 have I2:Inv X (pins ++ more) σ H { s with heap:=h', toks:=t' }:=I1.turned (fun b u hb q=>k b u hb q) f0 f1 f3 f4 f5
 refine I2.pins_of fun p hp=>?_
 rcases List.mem_append.mp hp with z | z
 ·exact I2.pin p (List.mem_append_right _ (List.mem_append_left _ z))
 ·rcases List.mem_cons.mp z with z | z
  ·rw [z]; exact ⟨e, f0, f1, f2, hd⟩
  ·exact I2.pin p (List.mem_append_right _ (List.mem_append_right _ z))
theorem Inv.pin1 {D:Addr} {o:Obj} (I:Inv X pins σ H s) (f:FpOk X pins H D) (e:s.heap.get? D = some o) (hd:∀ v, o.data ≠ .cell v):Inv X (pins ++ [(D, o)]) σ H s:=I.pins_of fun p hp=>by
 rcases List.mem_append.mp hp with z | z
 ·exact I.pin p (List.mem_append_right _ z)
 ·rw [List.mem_singleton.mp z]; exact ⟨e, f.1, f.2.1, f.2.2.1, hd⟩
theorem FpOk.heap {D:Addr} {H':Hp} (f:FpOk X pins H D) (h:H' D = none):FpOk X pins H' D:=⟨h, f.2⟩
structure MethV (K:PySem.W.Frag) (C:Addr) (m:Str) (g:Addr):Prop extends Meth K C m g where
 get:PySem.W.specialIn K (.ref g) "__get__" = some (some (.builtin "function.__get__"))
 tk:PySem.W.takesIn K (.ref g) = some false
 cp:PySem.W.copiedNames.contains m = false
theorem getbound_ok {A:Around} {E:Value -> Shared -> Prop} {a C dx g:Addr} {fs:List (Str × V)} {m:Str} {b:Bool} {Q:Value -> Shared -> Prop} (I:Inv X pins σ H s) (e:H a = some (.ins C dx fs)) (c:Cls X.K C) (k:MethV X.K C m g) (l:fs.lookup m = none)
  (h:∀ q s', H q = none -> Inv X pins σ (upd H q (.met g a)) s' -> Q (.ref q) s'):wpAny (model X.prog X.w) A (getAttr (.ref a) m b) Q E s:=by
 obtain ⟨mA, O, r, _, _, _⟩:=ins_get I.hok e
 have hn:mA m = none:=RelO.none_of (by rw [← l]; exact r m)
 obtain ⟨od, J, hl⟩:=O.look
 have hg:=c.get m
 refine PySem.W.get_bind I.kIn J (PySem.W.plainGet_of hg).1 (PySem.W.findObj_fn c.hd k.at_ k.get k.tk k.cp (by rw [hl, hn])) (PySem.W.plainGet_of hg).2 ?_
 refine wpAny_call (PySem.W.fn_get (s:={ s with toks:=s.toks + 1 }) I.kIn (beq_iff_eq.mp k.fn) (PySem.W.handed_on rfl (h s.heap.objs.size _ (I.hok.fresh (Nat.le_refl _)) ?_)))
 exact I.laid (fun b u q=>Heap.get?_push_of_some _ q) (Nat.le_refl _) (Heap.get?_push_size _ rfl)
def tBound (C:Addr) (m:Str) (g:Addr) (ta:TE):TE:=fun σ H Q=>ta σ H fun x H1=>∃ a dx fs, x = .ref a ∧ H1 a = some (.ins C dx fs) ∧ fs.lookup m = none ∧ ∀ q, H1 q = none -> Q (.ref q) (upd H1 q (.met g a))
theorem pe_bound {e:Expr} {ta:TE} {C g:Addr} {m:Str} {pos:Pos} (he:PE X e ta) (c:Cls X.K C) (k:MethV X.K C m g) (hb:attributeBase e m X.env (eval e X.env) = eval e X.env):PE X (.Attribute e m pos) (tBound C m g ta):=by
 intro pins s σ H Q I h
 refine attr_of hb (thn (he pins s σ H _ I h) fun u s1 ⟨x, H1, I1, r1, a, dx, fs, ex, ea, l, q⟩=>?_)
 subst ex
 cases r1
 exact getbound_ok I1 ea c k l fun p s' hp I'=>⟨.ref p, _, I', rfl, q p hp⟩
def Coll (K:PySem.W.Frag) (H:Hp) (x:V) (xs:List V):Prop:=∃ p, x = .ref p ∧ (SqL K H p xs ∨ ∃ kvs, Rd H p (.dK kvs) ∧ xs = kvs.map fun kv=>kV kv.1)
theorem keys_vals {P:Program} {w:World}:∀ {kvs:List (Key × V)} {vs:List (Key × Value)} {us:List Value}, KV kvs vs -> us.length = vs.length -> (∀ (j:Nat) (v:Value), us[j]? = some v -> ∃ k x, vs[j]? = some (k, x) ∧ (mixKind P w).is k v = true) -> Vals (kvs.map fun kv=>kV kv.1) us
 | _, _, [], .nil, _, _=>.nil
 | _, _, _ :: _, .nil, h, _=>by simp at h
 | _, _, [], .cons _ _, h, _=>by simp at h
 | (k, v) :: kvs, (k', v') :: vs, u :: us, .cons r t, hl, hu=>by
  obtain ⟨k1, x1, e1, i1⟩:=hu 0 u rfl
  have e1':(k', v') = (k1, x1):=by simpa using e1
  cases e1'
  have hk:k = k':=r.1
  subst hk
  refine .cons ?_ (keys_vals t (by simpa using hl) fun j v e=>hu (j + 1) v (by simpa using e))
  rcases keyIs_shape (show keyIs k u = true from i1) with ⟨i, t', rfl, rfl⟩ | ⟨x, t', rfl, rfl⟩
  ·exact ⟨t', rfl⟩
  ·exact ⟨t', rfl⟩
theorem coll_ok {A:Around} {x:V} {u:Value} {xs:List V} (I:Inv X pins σ H s) (hh:A.handled = none) (c:Coll X.K H x xs) (r:RelV x u):xs.length ≤ sizeLine ∧
  ∀ (R:List Value -> Shared -> Prop) (E:Value -> Shared -> Prop), (∀ (h':Heap) (tk:Nat) (vs':List Value), Vals xs vs' -> (∀ b u, s.heap.get? b = some u -> h'.get? b = some u) -> R vs' { s with heap:=h', toks:=tk }) -> wpAny (model X.prog X.w) A (collect u) R E s:=by
 obtain ⟨p, rfl, c⟩:=c
 cases r
 rcases c with c | ⟨kvs, c, rfl⟩
 ·obtain ⟨its, rv, pl, hz⟩:=I.list c
  refine ⟨hz, fun R E hR=>collect_list pl.isList ?_ (by rw [← rv.length]; exact hz)⟩
  refine hR _ s.toks its rv fun b u e=>?_
  have hb:b ≠ s.heap.objs.size:=Nat.ne_of_lt (Heap.lt_size e)
  rw [Heap.get?_update_ne _ _ _ _ hb]
  exact Heap.get?_push_of_some _ e
 ·obtain ⟨hz, hd, vs, kv, dd⟩:=dk_rd I.hok c
  obtain ⟨ep, hat⟩:=dd.dictAt
  have hl:=kv.length
  refine ⟨by rw [List.length_map]; exact hz, fun R E hR=>?_⟩
  refine PySem.W.kdu_collect (PySem.W.kdl_dict (knd:=mixKind X.prog X.w) (kvs:=vs) (ep:=ep) hd) hh hat (by rw [← hl]; exact hz) fun h' tk acc kp ha=>?_
  refine hR h' tk acc.toList (keys_vals (P:=X.prog) (w:=X.w) kv (by rw [Array.length_toList]; exact ha.1) fun j v e=>?_) kp
  obtain ⟨k, x, e1, e2⟩:=ha.2 j v (by rw [← Array.getElem?_toList]; exact e)
  exact ⟨k, x, e1, e2⟩
theorem vals_getD {xs:List V} {vs:List Value} (r:Vals xs vs):∀ (l:List Nat), (∀ i ∈ l, i < xs.length) -> Vals (l.map fun i=>xs.getD i .non) (l.map fun i=>vs.getD i Value.none)
 | [], _=>.nil
 | i :: l, h=>by
   have hi:=h i List.mem_cons_self
   have hl:=r.length
   obtain ⟨u, e, ru⟩:=r.get (i:=i) (x:=xs.getD i .non) (by simp [hi])
   refine .cons ?_ (vals_getD r l fun j hj=>h j (List.mem_cons_of_mem _ hj))
   have e':vs.getD i Value.none = u:=by
    have:i < vs.length:=by omega
    simp [List.getD, e]
   show RelV _ (vs.getD i Value.none)
   rw [e']
   exact ru
theorem sorted_new {D:Addr} {h1 h':Heap} {tk:Nat} {xs:List V} {vs:List Value} {p:Array Nat} {c:Nat} (I:Inv X pins σ H s) (k1:∀ b u, s.heap.get? b = some u -> h1.get? b = some u) (hD:h1.objs.size ≤ D) (k2:∀ b u, h1.get? b = some u -> h'.get? b = some u)
  (rv:Vals xs vs) (P:PermN xs.length p) (hz:xs.length ≤ sizeLine) (e:h'.get? D = some (seqObj "list" (List.toArray (p.toList.map fun i=>vs.getD i Value.none)) c)) :
  H D = none ∧ Inv X pins σ (upd H D (.lst (p.toList.map fun i=>xs.getD i .non))) { s with heap:=h', toks:=tk }:=by
 have I1:Inv X pins σ H { s with heap:=h1, toks:=tk }:=I.kept k1
 refine ⟨I1.hok.fresh hD, I1.laid (a:=D) (t':=tk) k2 hD ⟨?_, _, c, vals_getD rv _ fun i hi=>?_, e⟩⟩
 ·rw [List.length_map, Array.length_toList, P.size]; exact hz
 ·exact List.mem_range.mp (P.perm.mem_iff.mp hi)
def SortedBy (zs qs:List (V × List Int)):Prop:=qs.Perm zs ∧ qs.Pairwise fun a b=>HT.lexLt a.2 b.2 = true
theorem sortedBy_of {zs:List (V × List Int)} {p:Array Nat} (P:PermN zs.length p) (R:Rise (fun i j=>HT.lexLt ((zs.map (·.2)).getD i []) ((zs.map (·.2)).getD j [])) p zs.length) :
  ∃ qs, SortedBy zs qs ∧ (p.toList.map fun i=>(zs.map (·.1)).getD i .non) = qs.map (·.1):=by
 refine ⟨p.toList.map fun i=>zs.getD i (.non, []), ⟨perm_items P, rise_items P R fun i j hi hj h=>?_⟩, ?_⟩
 ·simpa [hi, hj] using h
 ·rw [List.map_map]
  refine List.map_congr_left fun i hi=>?_
  have:i < zs.length:=List.mem_range.mp (P.perm.mem_iff.mp hi)
  simp [this]
theorem tupKeys_of {xs:List V} {nss:List (List Int)} (I:Inv X pins σ H s):∀ {zs:List (V × List Int)} {vs:List Value}, (∀ z ∈ zs, ∃ a ta, z.1 = .ref a ∧ SqT X.K H a (z.2.map V.int ++ ta)) -> Vals (zs.map (·.1)) vs -> TupKeys s.heap vs (zs.map (·.2))
 | [], _, _, .nil=>.nil
 | z :: zs, v :: vs, h, .cons r t=>by
   obtain ⟨a, ta, e, hq⟩:=h z List.mem_cons_self
   have r:RelV z.1 v:=r
   rw [e] at r
   cases r
   obtain ⟨its, rv, hT, _⟩:=I.tuple hq
   exact .cons ⟨a, its, ta, rfl, hT, rv⟩ (tupKeys_of (xs:=xs) (nss:=nss) I (fun y hy=>h y (List.mem_cons_of_mem _ hy)) t)
def rSorted (K:PySem.W.Frag):List V -> Hp -> VK -> Prop:=fun us H Q=>∃ (x:V) (zs:List (V × List Int)) (k:Nat), us = [x] ∧ Coll K H x (zs.map (·.1)) ∧ zs.length < 64 ∧ 0 < k ∧ (∀ z ∈ zs, z.2.length = k) ∧ (zs.map (·.2)).Pairwise (· ≠ ·) ∧
 (∀ z ∈ zs, ∃ a ta, z.1 = .ref a ∧ SqT K H a (z.2.map V.int ++ ta)) ∧ ∀ qs D, SortedBy zs qs -> H D = none -> Q (.ref D) (upd H D (.lst (qs.map (·.1))))
theorem call_sorted (hc:X.calm = true):CallR X (.builtin "sorted") (rSorted X.K):=by
 intro pins s σ H us vs Q I r h
 obtain ⟨x, zs, k, rfl, hcoll, h64, hk, hlen, hd, ht, hq⟩:=h
 obtain ⟨u, rfl, ru⟩:=vals1 r
 have hh:X.A.handled = none:=I.ok.hd hc
 obtain ⟨hz, hcol⟩:=coll_ok (A:=X.A.in1) I hh hcoll ru
 have hl:(zs.map (·.1)).length = zs.length:=List.length_map ..
 have hl2:(zs.map (·.2)).length = zs.length:=List.length_map ..
 refine sorted_from (xs:=zs.map (·.1)) (o:=fun i j=>HT.lexLt ((zs.map (·.2)).getD i []) ((zs.map (·.2)).getD j [])) (by rw [hl]; exact h64) (by rw [hl, ← hl2]; exact sOrd_lex hd) hcol (fun h2 h' tk vs' rv kp=>?_) fun D h1 h' tk vs' p c rv P R k1 hD k2 e=>?_
 ·have I1:Inv X pins σ H { s with heap:=h', toks:=tk }:=I.kept kp
  have hrl:=rv.length
  refine keysAt_tuples (k:=k) (tupKeys_of (xs:=[]) (nss:=[]) I1 ht rv) (by omega) hk (fun ns hns=>?_) hd
  obtain ⟨z, hz1, rfl⟩:=List.mem_map.mp hns
  exact hlen z hz1
 ·rw [hl] at P R
  obtain ⟨hn, IF⟩:=sorted_new (tk:=tk) I k1 hD k2 rv (by rw [hl]; exact P) hz e
  obtain ⟨qs, S, eq⟩:=sortedBy_of P R
  rw [eq] at IF
  exact ⟨.ref D, _, IF, rfl, hq qs D S hn⟩
theorem method_run {CX:CXT} {kk:Nat} {g a q:Addr} {fd:FuncData} {ps:List Str} {sp:Sp} {y:V} {u:Value} {Q:VK} {A:Around} {E:Value -> Shared -> Prop} {σ:St} (F:FnOk X.prog X.w X.K X.mg X.base CX0 kk g fd ps sp) (hr:Room kk A) (hA:A.frames = X.A.frames) (hb:Binds X.K fd ps [])
  (I:Inv X pins σ H s) (hq:H q = some (.met g a)) (ry:RelV y u) (h:sp [.ref a, y] H Q E0):wpAny (model X.prog X.w) A (call (.ref q) [u]) (EP X pins σ Q) E s:=by
 have ho:s.heap.get? q = some (PySem.W.methodObj (.ref g) (.ref a)):=I.hok q _ hq
 have e0:=I.env0
 have r2:Vals [V.ref a, y] [Value.ref a, u]:=.cons rfl (.cons ry .nil)
 have hl:([Value.ref a, u] ++ ([]:List Value)).length = ps.length:=by rw [← F.len _ _ _ _ h]; rfl
 have hb':=hb s [.ref a, u] I.kIn hl
 refine wpAny_call (PySem.W.method_call ho (codeAny_mono (F.run A X.stack s H ⟨[.ref a, u], []⟩ [.ref a, u] [.ref a, y] Q E0 hr ⟨by rw [hA]; exact e0.frames, e0.mod, e0.bs, e0.bsz, e0.funs, e0.frf, e0.hok, e0.bare⟩ hb' r2 h) fun r s' hq'=>?_))
 cases r with
 | error e=>exact hq'.elim
 | ok fl=>
   cases fl with
   | ret v=>exact I.after hq'
   | next=>exact hq'.elim
   | brk=>exact hq'.elim
   | cont=>exact hq'.elim
def KeyIs (H:Hp) (k:Value) (ns:List Int):Prop:=∃ t, k = .ref t ∧ H t = some (.tup (ns.map V.int))
theorem keyIs_tup (I:Inv X pins σ H s):∀ {ks:List Value} {nss:List (List Int)}, Paired (KeyIs H) ks nss -> TupKeys s.heap ks nss
 | _, _, .nil=>.nil
 | _, _, .cons ⟨t, e, ht⟩ r=>by
   obtain ⟨its, rv, hT, _⟩:=I.tuple (SqT.of ht)
   exact .cons ⟨t, its, [], e, hT, by rw [List.append_nil]; exact rv⟩ (keyIs_tup I r)
theorem keyIs_same {H':Hp} (S:Same H H'):∀ {ks:List Value} {nss:List (List Int)}, Paired (KeyIs H) ks nss -> Paired (KeyIs H') ks nss
 | _, _, .nil=>.nil
 | _, _, .cons ⟨t, e, ht⟩ r=>.cons ⟨t, e, S _ _ ht⟩ (keyIs_same S r)
theorem noSeqCell {c:String} {xs:Array Value} {n:Nat}:∀ v, (seqObj c xs n).data ≠ .cell v:=fun v e=>by cases e
theorem sortKey_ok {kk n k:Nat} {g a q D:Addr} {fd:FuncData} {ps:List Str} {sp:Sp} {A:Around} {E:Value -> Shared -> Prop} {P:PySem.Fin -> Shared -> Prop} {zs:List (V × List Int)} {vs:List Value}
  (F:FnOk X.prog X.w X.K X.mg X.base CX0 kk g fd ps sp) (hr:Room kk A) (hA:A.frames = X.A.frames) (hb:Binds X.K fd ps []) (I:Inv X pins σ H s) (fD:FpOk X pins H D) (hq:H q = some (.met g a))
  (ho:s.heap.get? D = some (seqObj "list" vs.toArray n)) (rv:Vals (zs.map (·.1)) vs) (h64:zs.length < 64) (hk:0 < k) (hlen:∀ z ∈ zs, z.2.length = k) (hd:(zs.map (·.2)).Pairwise (· ≠ ·))
  (hsp:∀ z ∈ zs, ∀ (H':Hp) (Q':VK), Same H H' -> (∀ t, H' t = none -> Q' (.ref t) (upd H' t (.tup (z.2.map V.int)))) -> sp [.ref a, z.1] H' Q' E0)
  (h:∀ (s':Shared) (H':Hp) (p:Array Nat) (c:Nat), Same H H' -> Inv X pins σ H' s' -> FpOk X pins H' D -> PermN zs.length p -> Rise (fun i j=>HT.lexLt ((zs.map (·.2)).getD i []) ((zs.map (·.2)).getD j [])) p zs.length ->
    s'.heap.get? D = some (seqObj "list" (List.toArray (p.toList.map fun i=>vs.getD i Value.none)) c) -> P (.done (.ret .none)) s') :
  wpAny (model X.prog X.w) A (ksk_tree D (.ref q) false) P E s:=by
 have hvl:zs.length = vs.length:=by rw [← rv.length, List.length_map]
 have line:vs.length ≤ sizeLine:=by rw [sizeLine_eq]; omega
 have hD:D < s.heap.objs.size:=Heap.lt_size ho
 have s1:=Heap.SameBut.update s.heap D (Obj.mapSeq fun _=>(#[]:Array Value))
 obtain ⟨e1, ho1⟩:∃ e1, (s.heap.update D (Obj.mapSeq fun _=>(#[]:Array Value))).get? D = some (seqObj "list" #[] e1):=⟨_, get?_update_seq ho fun _=>#[]⟩
 unfold ksk_tree
 refine wpAny_bind (listItems_at ho rfl ?_)
 refine wpAny_bind (listUpdate_at ho rfl ?_ (by rw [List.size_toArray]; exact line) (Nat.zero_le _))
 refine wpAny_bind (seqEpoch_at ho1 rfl (wpAny_bind (wpAny_newTuple ?_ line)))
 refine wpAny_bind (wpAny_newList (wpAny_holding ?_) (Nat.zero_le _))
 dsimp only
 generalize hg1:(s.heap.update D (Obj.mapSeq fun _=>(#[]:Array Value))).push _ = h1
 have hS:(h1.push { cls:=.type "list", data:=.seq ([]:List Value).toArray }).get? h1.objs.size = some (seqObj "list" #[] 0):=Heap.get?_push_size _ rfl
 have kp1:∀ b u, b ≠ D -> s.heap.get? b = some u -> h1.get? b = some u:=fun b u hb e=>by rw [← hg1]; exact Heap.get?_push_of_some _ ((s1.2 b hb).trans e)
 have hoD:h1.get? D = some (seqObj "list" #[] e1):=by rw [← hg1]; exact Heap.get?_push_of_some _ ho1
 generalize hkS:h1.objs.size = kS at *
 have hDS:D ≠ kS:=by rw [← hkS]; exact Nat.ne_of_lt (Heap.lt_size hoD)
 have Ia:Inv X (pins ++ [(D, seqObj "list" vs.toArray n)]) σ H s:=I.pin1 fD ho noSeqCell
 have Ib:Inv X (pins ++ [(D, seqObj "list" #[] e1)]) σ H { s with heap:=h1 }:=Ia.repin (more:=[]) (t':=s.toks) (by rw [List.append_nil]; exact fD) kp1 hoD noSeqCell
 have Ic:Inv X (pins ++ [(D, seqObj "list" #[] e1)]) σ H { s with heap:=h1.push { cls:=.type "list", data:=.seq ([]:List Value).toArray } }:=Ib.kept (t':=s.toks) fun b u e=>Heap.get?_push_of_some _ e
 have fS:FpOk X (pins ++ [(D, seqObj "list" #[] e1)]) H kS:=Ib.fpOk (by show h1.objs.size ≤ kS; omega) (Ib.hok.fresh (by show h1.objs.size ≤ kS; omega))
 have Id:Inv X ((pins ++ [(D, seqObj "list" #[] e1)]) ++ [(kS, seqObj "list" #[] 0)]) σ H { s with heap:=h1.push { cls:=.type "list", data:=.seq ([]:List Value).toArray } }:=Ic.pin1 fS hS noSeqCell
 unfold ksk_rest
 refine wpAny_bind (wpAny_rule ?_)
 first
  | rw [List.forIn_toArray]
  | (rw [← Array.forIn_toList]; simp only [List.toList_toArray])
 refine wpAny_bind (ksk_fold (fun i s'=>∃ (H':Hp) (ks:List Value) (c:Nat), Same H H' ∧ Inv X ((pins ++ [(D, seqObj "list" #[] e1)]) ++ [(kS, seqObj "list" (List.toArray ks) c)]) σ H' s' ∧ Paired (KeyIs H') ks ((zs.map (·.2)).take i)) vs 0 _ ⟨H, [], 0, Same.refl H, Id, by rw [List.take_zero]; exact .nil⟩ ?_ ?_)
 ·rintro j x s2 hx ⟨H2, ks, c, S2, I2, K2⟩
  rw [Nat.zero_add] at K2 ⊢
  have hj:j < zs.length:=by rw [hvl]; exact (List.getElem?_eq_some_iff.mp hx).1
  obtain ⟨u, eu, ru⟩:=rv.get (i:=j) (x:=zs[j].1) (by simp [hj])
  have:u = x:=Option.some.inj (eu.symm.trans hx)
  subst this
  have hkl:ks.length ≤ zs.length:=by
   have:=Paired.length K2
   rw [List.length_take, List.length_map] at this
   omega
  refine wpAny_bind (wpAny_attempt (wpAny_mono (method_run (CX:=CX0) (Q:=fun v H3=>∃ t, v = .ref t ∧ H2 t = none ∧ H3 = upd H2 t (.tup (zs[j].2.map V.int))) (E:=fun _ _=>False) F hr hA hb I2 (S2 _ _ hq) ru (hsp zs[j] (List.getElem_mem _) H2 _ S2 fun t ht=>⟨t, rfl, ht, rfl⟩)) (fun k' s3 hk3=>?_) fun _ _ f=>f.elim))
  obtain ⟨v, H3, I3, r3, t, rfl, ht, rfl⟩:=hk3
  cases r3
  have S3:Same H2 (upd H2 t (.tup (zs[j].2.map V.int))):=fun b o e=>by rw [upd_ne (ne_of_none e ht)]; exact e
  obtain ⟨pS, nS, _, _, _⟩:=I3.pin (kS, seqObj "list" (List.toArray ks) c) (by simp)
  have s3:=Heap.SameBut.update s3.heap kS (Obj.mapSeq (·.push (.ref t)))
  dsimp only
  refine wpAny_bind (listUpdate_at pS rfl ?_ (by rw [List.size_toArray, sizeLine_eq]; omega) (Nat.le_trans (Nat.le_of_eq (Array.size_push ..)) (by rw [List.size_toArray, sizeLine_eq]; omega)))
  have CC:∃ c':Nat, c' = if ((List.toArray ks).push (.ref t)).size == (List.toArray ks).size then c else c + 1:=⟨_, rfl⟩
  obtain ⟨c', ec'⟩:=CC
  refine wpAny_pure ⟨rfl, _, ks ++ [.ref t], c', S2.trans S3, I3.repin (more:=[]) (t':=_) (by rw [List.append_nil]; exact fS.heap nS) (fun b u hb e=>(s3.2 b hb).trans e) (o':=seqObj "list" (List.toArray (ks ++ [.ref t])) c') ?_ noSeqCell, ?_⟩
  ·rw [show List.toArray (ks ++ [.ref t]) = (List.toArray ks).push (.ref t) by simp, ec']
   exact get?_update_seq pS (·.push (.ref t))
  ·have e2:(zs.map (·.2)).take (j + 1) = (zs.map (·.2)).take j ++ [zs[j].2]:=by
    rw [List.take_add_one]
    simp [hj]
   rw [e2]
   exact (keyIs_same S3 K2).snoc ⟨t, rfl, upd_same⟩
 ·rintro s2 ⟨H2, ks, c, S2, I2, K2⟩
  rw [Nat.zero_add, ← hvl, show (zs.map (·.2)).take zs.length = zs.map (·.2) by rw [List.take_of_length_le]; simp] at K2
  have hkl:ks.length = zs.length:=by rw [Paired.length K2, List.length_map]
  obtain ⟨pS, nS, _, _, _⟩:=I2.pin (kS, seqObj "list" (List.toArray ks) c) (by simp)
  obtain ⟨pD, nD, _, _, _⟩:=I2.pin (D, seqObj "list" #[] e1) (by simp)
  try dsimp only
  refine wpAny_bind (listItems_at pS rfl ?_)
  unfold ksk_end
  dsimp only
  simp only [Bool.false_eq_true, if_false]
  refine sort_heart (o:=fun i j=>HT.lexLt ((zs.map (·.2)).getD i []) ((zs.map (·.2)).getD j [])) (by omega) (by omega) (by rw [← hvl, ← List.length_map (f:=(·.2)) (as:=zs)]; exact sOrd_lex hd) (fun h2=>?_) fun p st hp hr' ha hf=>?_
  ·exact keysAt_tuples (k:=k) (keyIs_tup I2 K2) (by omega) hk (fun ns hns=>by
    obtain ⟨z, hz1, rfl⟩:=List.mem_map.mp hns
    exact hlen z hz1) hd
  ·unfold ksk_tail
   dsimp only
   rw [out_items (by omega) ha]
   have hsz:(List.toArray (p.toList.map fun i=>vs.getD i Value.none)).size = vs.length:=by rw [List.size_toArray, List.length_map, Array.length_toList, hp.size]
   have sS:=Heap.SameBut.update s2.heap kS (Obj.mapSeq fun _=>(#[]:Array Value))
   refine wpAny_bind (listUpdate_at pS rfl ?_ (by rw [List.size_toArray, sizeLine_eq]; omega) (Nat.zero_le _))
   refine wpAny_bind (wpAny_letGo ?_)
   have I3:=I2.repin (more:=[]) (t':=s2.toks) (by rw [List.append_nil]; exact fS.heap nS) (fun b u hb e=>(sS.2 b hb).trans e) (get?_update_seq pS fun _=>(#[]:Array Value)) noSeqCell
   obtain ⟨pD3, nD3, _, _, _⟩:=I3.pin (D, seqObj "list" #[] e1) (by simp)
   refine wpAny_bind (seqEpoch_at pD3 rfl ?_)
   have sD:=Heap.SameBut.update (s2.heap.update kS (Obj.mapSeq fun _=>(#[]:Array Value))) D (Obj.mapSeq fun _=>List.toArray (p.toList.map fun i=>vs.getD i Value.none))
   refine wpAny_bind (listUpdate_at pD3 rfl ?_ (Nat.zero_le _) (Nat.le_trans (Nat.le_of_eq hsz) (Nat.le_succ_of_le line)))
   rw [hf]
   simp only [bne_self_eq_false, Bool.false_eq_true, if_false]
   have I4:Inv X pins σ H2 { s2 with heap:=s2.heap.update kS (Obj.mapSeq fun _=>(#[]:Array Value)) }:=I3.unpinned.unpinned
   have fD':FpOk X pins H2 D:=fD.heap nD3
   obtain ⟨g0, g1, _, g3, g4, g5⟩:=fD'
   have I5:=I4.turned (t':=s2.toks) (it:=D) (fun b u hb e=>(sD.2 b hb).trans e) g0 g1 g3 g4 g5
   exact wpAny_pure (h _ H2 p _ S2 I5 ⟨g0, g1, by assumption, g3, g4, g5⟩ (by rw [hvl]; exact hp) (by rw [hvl]; exact hr') (get?_update_seq pD3 fun _=>List.toArray (p.toList.map fun i=>vs.getD i Value.none)))
def rSortK (K:PySem.W.Frag) (g:Addr) (sp:Sp) (x f:V) (H2:Hp) (Q:VK):Prop:=∃ (q a:Addr) (zs:List (V × List Int)) (k:Nat), f = .ref q ∧ H2 q = some (.met g a) ∧ Coll K H2 x (zs.map (·.1)) ∧ zs.length < 64 ∧ 0 < k ∧ (∀ z ∈ zs, z.2.length = k) ∧ (zs.map (·.2)).Pairwise (· ≠ ·) ∧
 (∀ z ∈ zs, ∀ (H':Hp) (Q':VK), Same H2 H' -> (∀ t, H' t = none -> Q' (.ref t) (upd H' t (.tup (z.2.map V.int)))) -> sp [.ref a, z.1] H' Q' E0) ∧
 ∀ qs D H', SortedBy zs qs -> H2 D = none -> Same H2 H' -> H' D = some (.lst (qs.map (·.1))) -> Q (.ref D) H'
def tSortK (K:PySem.W.Frag) (g:Addr) (sp:Sp) (ti tk:TE):TE:=fun σ H Q=>ti σ H fun x H1=>tk σ H1 fun f H2=>rSortK K g sp x f H2 Q
def one1 (R:V -> Hp -> Prop):List V -> Hp -> Prop:=fun vs H=>match vs with
 | [x]=>R x H
 | _=>False
theorem one1_of {R:V -> Hp -> Prop}:∀ {vs:List V} {H:Hp}, one1 R vs H -> ∃ x, vs = [x] ∧ R x H
 | [], _, h=>h.elim
 | [x], _, h=>⟨x, rfl, h⟩
 | _ :: _ :: _, _, h=>h.elim
theorem sortK_call {kk:Nat} {g:Addr} {fd:FuncData} {ps:List Str} {sp:Sp} {x f:V} {u v:Value} {Q:VK} (hc:X.calm = true) (F:FnOk X.prog X.w X.K X.mg X.base CX0 kk g fd ps sp) (hr:Room (kk + 2) X.A) (hb:Binds X.K fd ps []) (I:Inv X pins σ H s) (rx:RelV x u) (rf:RelV f v) (h:rSortK X.K g sp x f H Q) :
  wpAny (model X.prog X.w) X.A (call (.builtin "sorted") [u] [(Str.ofString "key", v)]) (EP X pins σ Q) X.xe s:=by
 obtain ⟨q, a, zs, k, rfl, hq, hcoll, h64, hk, hlen, hd, hsp, hQ⟩:=h
 cases rf
 obtain ⟨hz, hcol⟩:=coll_ok (A:=X.A.in1) I (I.ok.hd hc) hcoll rx
 rw [List.length_map] at hz
 refine call_function_entry_kw kind_sorted plain_sorted entry_sorted (ksk_s1 _ _) ?_
 unfold Builtin.«sorted»
 refine wpAny_bind (m:=checkCount "sorted" 1 1 _) (wpAny_pure (wpAny_bind (hcol _ _ fun h1 tk vs rv k1=>?_)))
 have hl:zs.length = vs.length:=by rw [← rv.length, List.length_map]
 refine wpAny_bind (wpAny_newList ?_ (by rw [← hl]; exact hz))
 have hoL:(h1.push { cls:=.type "list", data:=.seq vs.toArray }).get? h1.objs.size = some (seqObj "list" vs.toArray 0):=Heap.get?_push_size _ rfl
 have I1:Inv X pins σ H { s with heap:=h1, toks:=tk }:=I.kept k1
 have I2:Inv X pins σ H { s with heap:=h1.push { cls:=.type "list", data:=.seq vs.toArray }, toks:=tk }:=I1.kept (t':=tk) fun b u e=>Heap.get?_push_of_some _ e
 have fD:FpOk X pins H h1.objs.size:=I1.fpOk (Nat.le_refl _) (I1.hok.fresh (Nat.le_refl _))
 refine wpAny_bind (wpAny_holding (wpAny_call_entry_kw slot_list_sort ⟨_, hoL, rfl⟩ entry_list_sort ?_ (ksk_l1 _ _)))
 show wpAny (model X.prog X.w) X.A.in1.in1 (Builtin.«list.sort» ⟨[.ref h1.objs.size], [(Str.ofString "key", .ref q)]⟩) _ _ _
 rw [ksk_t1]
 refine sortKey_ok F hr.in1.in1 rfl hb I2 fD hq hoL rv h64 hk hlen hd hsp fun s' H' p c S I' f' P R e=>?_
 obtain ⟨qs, SB, eq⟩:=sortedBy_of P R
 refine ⟨_, rfl, wpAny_pure ⟨_, rfl, .ref h1.objs.size, upd H' h1.objs.size (.lst (qs.map (·.1))), ?_, rfl, hQ qs _ _ SB fD.1 (fun b o e'=>?_) upd_same⟩⟩
 ·refine I'.track f' ⟨?_, _, c, ?_, e⟩
  ·rw [List.length_map, SB.1.length_eq]; exact hz
  ·rw [← eq]
   exact vals_getD rv _ fun i hi=>by rw [List.length_map]; exact List.mem_range.mp (P.perm.mem_iff.mp hi)
 ·rw [upd_ne (ne_of_none e' fD.1)]; exact S b o e'
theorem pe_sortK {kk:Nat} {g:Addr} {fd:FuncData} {ps:List Str} {sp:Sp} {e f:Expr} {ti tk:TE} {p pos kpos:Pos} (hc:X.calm = true) (F:FnOk X.prog X.w X.K X.mg X.base CX0 kk g fd ps sp) (hr:Room (kk + 2) X.A) (hb:Binds X.K fd ps []) (hg:Gl X "sorted") (hm:X.mg "sorted" = none)
  (he:PE X e ti) (hf:PE X f tk) (hs:starEach [e] X.env = (false, eval e X.env) :: starEach [] X.env:=by rfl) (hbt:backTo pos (starEach [e] X.env) = (false, eval e X.env) :: backTo pos (starEach [] X.env):=by rfl)
  (hpl:(backTo pos (starEach [e] X.env)).any (·.1) = false:=by rfl):PE X (.Call (.Name "sorted" p) [e] [⟨some "key", f, kpos⟩] pos) (tSortK X.K g sp ti tk):=by
 intro pins s σ H Q I h
 refine wpAny_Call_Name_kw (ld_blt I hg hm boot_sorted ?_ (by decide) (by decide))
 refine callWith_kw (thn ((pa_cons he pa_nil hs) pos pins s σ H (one1 fun x H1=>tk σ H1 fun f H2=>rSortK X.K g sp x f H2 Q) I h) fun us s1 ⟨vs, H1, I1, r1, q1⟩=>?_) hbt hpl rfl rfl
 obtain ⟨x, rfl, q1⟩:=one1_of q1
 obtain ⟨u, rfl, ru⟩:=vals1 r1
 refine thn ((pk_cons hf pk_nil) pos pins s1 σ H1 (one1 fun f H2=>rSortK X.K g sp x f H2 Q) I1 q1) fun ws s2 ⟨zs, H2, I2, r2, q2⟩=>?_
 obtain ⟨f', rfl, q2⟩:=one1_of q2
 obtain ⟨v, rfl, rv⟩:=vals1 r2
 exact sortK_call hc F hr hb I2 ru rv q2
end
end L2

namespace L2
open PySem PySem.Spec PyProof.Rows
section
variable {X:Cx} {pins:List (Addr × Obj)} {σ:St} {H:Hp} {s:Shared}
def CDivB (i j:Int):Prop:=0 < j ∧ j < 2 ^ 200
theorem cdivB_log {j:Int} (h:0 < j ∧ j < 2 ^ 200):j.natAbs.log2 < 9000:=by
 have h0:j.natAbs ≠ 0:=by omega
 have e:j.natAbs < 2 ^ 200:=by
  have:=h.2
  have h1:=h.1
  omega
 have:=(Nat.log2_lt h0).mpr e
 omega
theorem op_fdivB:OpR X (binaryOp .FloorDiv) (rI CDivB fun i j=>.int (i / j)):=opI fun i j _ _ _ _ _ hc q=>by
 refine floordiv_int (by have:=hc.1; omega) ?_ (.inl (PyProof.noPylong_of_log2 (cdivB_log hc)))
 rw [Int.fdiv_eq_ediv_of_nonneg _ (Int.le_of_lt hc.1)]
 exact q
theorem mt_bits:MtR X "int.bit_length" (fun x vs H Q=>∃ i, x = .int i ∧ vs = [] ∧ Q (.int (Builtin.Int.intBits i)) H):=by
 intro pins s σ H x xs v us Q I rx rv h
 obtain ⟨i, rfl, rfl, q⟩:=h
 obtain ⟨t, rfl⟩:=rx
 cases rv
 exact call_int_bit_length ⟨.int (Builtin.Int.intBits i), H, I.tok _, ⟨_, rfl⟩, q⟩
def rIsi (K:PySem.W.Frag):List V -> Hp -> VK -> Prop:=fun vs H Q=>∃ x T t b, vs = [x, .ty T] ∧ TyOf K H x t ∧ PySem.W.kitOne K t (.type T) = some b ∧ Q (.bl b) H
theorem call_isi:CallR X (.builtin "isinstance") (rIsi X.K):=by
 intro pins s σ H xs us Q I r h
 obtain ⟨x, T, t, b, rfl, ty, e, q⟩:=h
 obtain ⟨u, v, rfl, ru, rv⟩:=vals2 r
 cases (show v = Value.type T from rv)
 exact isinst_ok I ru ty e fun tk=>⟨.bl b, H, I.tok tk, rfl, q⟩
theorem op_le_str:OpR X (compareOp .LtE) (fun x y H Q=>∃ i j, x = .str i ∧ y = .str j ∧ Q (.bl (!decide (j.cps.toList < i.cps.toList))) H):=by
 intro pins s σ H x y v u Q I rx ry h
 obtain ⟨i, j, rfl, rfl, q⟩:=h
 obtain ⟨t, rfl⟩:=rx
 obtain ⟨t', rfl⟩:=ry
 exact PySem.P.le_str (fin_bl I q rfl)
def rSlS:V -> Option Int -> Option Int -> Hp -> VK -> Prop:=fun x lo hi H Q=>∃ z, x = .str z ∧ z.length ≤ sizeLine ∧ Q (.str (Txt.slice z lo hi)) H
theorem part_of {v:Value} {o:Option Int} (p:IsPart v o):∃ q:Option (Int × Tok), v = partValue q ∧ q.map (·.1) = o:=by
 cases p with
 | none=>exact ⟨none, rfl, rfl⟩
 | int i t=>exact ⟨some (i, t), rfl, rfl⟩
theorem sl_str:SlR X rSlS:=by
 intro pins s σ H x v vl vu lo hi sl Q I rx hs pl pu h
 obtain ⟨z, rfl, hz, q⟩:=h
 obtain ⟨t, rfl⟩:=rx
 obtain ⟨ql, rfl, rfl⟩:=part_of pl
 obtain ⟨qu, rfl, rfl⟩:=part_of pu
 refine ⟨"str", _, PySem.F.slot_str_getitem.lookup, typeIs_str _ _ _, wpAny_getItem_str_slice (l:=ql) (u:=qu) (st:=none) hs rfl ?_⟩
 exact post_val_or_str ⟨Nat.le_trans (Txt.slice_le z _ _) hz, fun t' k=>⟨.str _, H, I.tok k, ⟨t', rfl⟩, q⟩⟩
theorem strsAre_of:∀ {zs:List Str} {us:List Value}, Vals (zs.map V.str) us -> StrsAre us zs
 | [], _, .nil=>.nil
 | z :: zs, _, .cons r t=>by
   obtain ⟨u, rfl⟩:=r
   exact .cons _ _ (strsAre_of t)
def rJoin (K:PySem.W.Frag):V -> List V -> Hp -> VK -> Prop:=fun x vs H Q=>∃ z p zs, x = .str z ∧ vs = [.ref p] ∧ SqL K H p (zs.map V.str) ∧ (zs.map (·.length)).sum + zs.length * z.length ≤ 16777216 ∧ Q (.str (Txt.join z zs)) H
theorem mt_join:MtR X "str.join" (rJoin X.K):=by
 intro pins s σ H x xs v us Q I rx rv h
 obtain ⟨z, p, zs, rfl, rfl, hq, hl, q⟩:=h
 obtain ⟨t, rfl⟩:=rx
 obtain ⟨u, rfl, ru⟩:=vals1 rv
 cases ru
 obtain ⟨its, rl, pl, _⟩:=I.list hq
 exact join_list pl.isList (by simpa using strsAre_of rl) hl fun t' k=>⟨.str _, H, I.tok k, ⟨t', rfl⟩, q⟩
theorem call_all (hc:X.calm = true):CallR X (.builtin "all") (fun vs H Q=>∃ (p:Addr) (bs:List Bool), vs = [.ref p] ∧ SqL X.K H p (bs.map V.bl) ∧ Q (.bl (bs.all id)) H):=by
 intro pins s σ H xs us Q I r h
 obtain ⟨p, bs, rfl, hq, q⟩:=h
 obtain ⟨u, rfl, ru⟩:=vals1 r
 cases ru
 obtain ⟨its, rl, pl, hz⟩:=I.list hq
 have hh:X.A.in1.handled = none:=I.ok.hd hc
 have hl:=rl.length
 rw [List.length_map] at hl
 refine call_all_walk (wpAny_pyIter_list pl.isList ?_)
 have hne:p ≠ s.heap.objs.size:=by
  obtain ⟨o, ho, _⟩:=pl.isList
  exact Nat.ne_of_lt (Heap.lt_size ho)
 refine ⟨s.heap.objs.size, _, _, _, _, _, fun i=>bs.getD i true, rfl, Walks.list hh _ p hne its.toArray, ⟨⟨_, Heap.get?_push_size _ rfl, rfl, rfl⟩, pl.isList.at fun o e=>Heap.get?_push_of_some _ e⟩, ?_, fun h' tk kp=>?_⟩
 ·intro i v s' Q' E' hv hq'
  have hv':its[i]? = some v:=by simpa using hv
  have hi:i < bs.length:=by rw [hl]; exact (List.getElem?_eq_some_iff.mp hv').1
  obtain ⟨u, eu, ru⟩:=rl.get (i:=i) (x:=.bl bs[i]) (by simp [hi])
  have:u = v:=Option.some.inj (eu.symm.trans hv')
  subst this
  cases (show u = Value.bool bs[i] from ru)
  refine wpAny_truthy_bool ?_
  rw [show bs[i] = bs.getD i true by simp [hi]]
  exact hq'
 ·have e:((List.range its.toArray.size).all fun i=>bs.getD i true) = bs.all id:=by
   rw [List.size_toArray, ← hl]
   rw [Bool.eq_iff_iff, List.all_eq_true, List.all_eq_true]
   constructor
   ·intro h x hx
    obtain ⟨i, hi, rfl⟩:=List.getElem_of_mem hx
    have:=h i (List.mem_range.mpr hi)
    simpa [hi] using this
   ·intro h i hi
    have hi:=List.mem_range.mp hi
    have:=h bs[i] (List.getElem_mem _)
    simpa [hi] using this
  rw [e]
  refine ⟨.bl _, H, I.turns (fp:=[s.heap.objs.size]) (t':=tk) (fun b hb=>?_) fun b o hb e'=>kp b o hb (Heap.get?_push_of_some _ e'), rfl, q⟩
  rw [List.mem_singleton.mp hb]
  exact I.fpOk (Nat.le_refl _) (I.hok.fresh (Nat.le_refl _))
def eqVs:List V -> List V -> Bool
 | [], []=>true
 | x :: xs, y :: ys=>eqV x y && eqVs xs ys
 | _, _=>false
theorem eqVs_len:∀ {xs ys:List V}, eqVs xs ys = true -> xs.length = ys.length
 | [], [], _=>rfl
 | [], _ :: _, h=>by cases h
 | _ :: _, [], h=>by cases h
 | x :: xs, y :: ys, h=>by
   unfold eqVs at h
   rw [Bool.and_eq_true] at h
   rw [List.length_cons, List.length_cons, eqVs_len h.2]
theorem eqVs_all:∀ {xs ys:List V}, xs.length = ys.length -> ((List.range xs.length).all fun i=>eqV (xs.getD i .non) (ys.getD i .non)) = eqVs xs ys
 | [], [], _=>rfl
 | [], _ :: _, h=>by simp at h
 | _ :: _, [], h=>by simp at h
 | x :: xs, y :: ys, h=>by
   rw [List.length_cons, List.range_succ_eq_map, List.all_cons, List.all_map]
   show (eqV x y && (List.range xs.length).all fun i=>eqV (xs.getD i .non) (ys.getD i .non)) = (eqV x y && eqVs xs ys)
   rw [eqVs_all (by simpa using h)]
theorem eqVs_ne {xs ys:List V} (h:xs.length ≠ ys.length):eqVs xs ys = false:=by
 cases e:eqVs xs ys with
 | false=>rfl
 | true=>exact absurd (eqVs_len e) h
theorem eqVs_strs:∀ {a b:List Str}, eqVs (a.map V.str) (b.map V.str) = decide (a = b)
 | [], []=>by simp [eqVs]
 | [], _ :: _=>by simp [eqVs]
 | _ :: _, []=>by simp [eqVs]
 | x :: a, y :: b=>by
   rw [List.map_cons, List.map_cons]
   show (eqV (.str x) (.str y) && eqVs (a.map V.str) (b.map V.str)) = _
   rw [eqVs_strs]
   by_cases e:x = y
   ·subst e
    by_cases e2:a = b
    ·subst e2; simp [eqV]
    ·simp [e2]
   ·have:eqV (.str x) (.str y) = false:=by simp [eqV, e]
    simp [this, e]
def rEqL (K:PySem.W.Frag) (neg:Bool):R2:=fun x y H Q=>∃ p q xs ys, x = .ref p ∧ y = .ref q ∧ SqL K H p xs ∧ SqL K H q ys ∧ xs.all flatV = true ∧ ys.all flatV = true ∧ Q (.bl (if neg = true then !eqVs xs ys else eqVs xs ys)) H
theorem eqL_at {A:Around} {xs ys:List V} {us ws:List Value} (r1:Vals xs us) (r2:Vals ys ws) (f1:xs.all flatV = true) (f2:ys.all flatV = true):∀ j (h1:j < us.toArray.size) (h2:j < ws.toArray.size), SeqAt.EqAt A s us.toArray[j] ws.toArray[j] (eqV (xs.getD j .non) (ys.getD j .non)):=fun j h1 h2=>by
 have l1:=r1.length
 have l2:=r2.length
 have j1:j < us.length:=by simpa using h1
 have j2:j < ws.length:=by simpa using h2
 have k1:j < xs.length:=by omega
 have k2:j < ys.length:=by omega
 obtain ⟨u, e1, q1⟩:=r1.get (i:=j) (x:=xs[j]) (by simp [k1])
 obtain ⟨v, e2, q2⟩:=r2.get (i:=j) (x:=ys[j]) (by simp [k2])
 have d1:us.toArray[j] = u:=by
  have:us[j]? = some us[j]:=by simp [j1]
  rw [this] at e1; simpa using Option.some.inj e1
 have d2:ws.toArray[j] = v:=by
  have:ws[j]? = some ws[j]:=by simp [j2]
  rw [this] at e2; simpa using Option.some.inj e2
 rw [d1, d2, show xs.getD j .non = xs[j] by simp [k1], show ys.getD j .non = ys[j] by simp [k2]]
 exact eqAt_V q1 q2 (List.all_eq_true.mp f1 _ (List.getElem_mem _)) (List.all_eq_true.mp f2 _ (List.getElem_mem _))
theorem op_eqL (hu:X.A.units < cLine):OpR X (compareOp .Eq) (rEqL X.K false):=by
 intro pins s σ H x y v u Q I rx ry h
 obtain ⟨p, q, xs, ys, rfl, rfl, h1, h2, f1, f2, hq⟩:=h
 cases rx
 cases ry
 obtain ⟨us, r1, p1, _⟩:=I.list h1
 obtain ⟨ws, r2, p2, _⟩:=I.list h2
 have l1:=r1.length
 have l2:=r2.length
 by_cases e:xs.length = ys.length
 ·refine SeqAt.eq_listAt p1.isList p2.isList (by simp; omega) hu (eqL_at r1 r2 f1 f2) ?_
  rw [List.size_toArray, ← l1, eqVs_all e]
  exact fin_bl I hq rfl
 ·refine SeqAt.eq_list_lengthsAt p1.isList p2.isList (by simp; omega) hu ?_
  refine fin_bl I hq ?_
  rw [eqVs_ne e]; rfl
theorem op_neL (hu:X.A.units < cLine):OpR X (compareOp .NotEq) (rEqL X.K true):=by
 intro pins s σ H x y v u Q I rx ry h
 obtain ⟨p, q, xs, ys, rfl, rfl, h1, h2, f1, f2, hq⟩:=h
 cases rx
 cases ry
 obtain ⟨us, r1, p1, _⟩:=I.list h1
 obtain ⟨ws, r2, p2, _⟩:=I.list h2
 have l1:=r1.length
 have l2:=r2.length
 by_cases e:xs.length = ys.length
 ·refine SeqAt.RcNeAt.lists p1.isList p2.isList (by simp; omega) hu (eqL_at r1 r2 f1 f2) _ _ _ _ ?_
  rw [List.size_toArray, ← l1, eqVs_all e]
  exact fin_bl I hq rfl
 ·refine SeqAt.RcNeAt.lists_lengths p1.isList p2.isList (by simp; omega) hu _ _ _ _ ?_
  refine fin_bl I hq ?_
  rw [eqVs_ne e]; rfl
def Its (x:Str):It:=⟨fun i _=>i < x.cps.size, fun i H v H'=>H' = H ∧ ∃ c, x.cps[i]? = some c ∧ v = .str ⟨#[c]⟩, fun i _=>x.cps.size ≤ i⟩
theorem turn_str {P:Program} {w:World} {K:PySem.W.Frag} {tg:Expr} (it:Addr) (x:Str) (t:Tok) (ty:String) (hty:ty = "str_ascii_iterator" ∨ ty = "str_iterator"):Turn P w K tg (Its x) [it] it (fun i h=>h.IsStrIter it ty x t i) where
 mem:=by simp
 obj:=fun i h st b hb=>by
  have e:b = it:=by simpa using hb
  subst e
  obtain ⟨o, e, c, d⟩:=st
  exact ⟨o, e, fun v z=>by rw [d] at z; cases z⟩
 keep:=fun i h h' st k=>let ⟨o, ho, r⟩:=st; ⟨o, k it (by simp) o ho, r⟩
 item:=by
  intro X hP hw hK hc i pins s σ H E I hf st hg
  subst hP hw hK
  obtain ⟨f0, f1, f2, f3, f4, f5⟩:=hf it (by simp)
  have hh:X.A.handled = none:=I.ok.hd hc
  have W:Walks X.prog X.w X.A it [it] [it] x.cps.size (SignAt x) (fun i h=>h.IsStrIter it ty x t i):=by
   rcases hty with rfl | rfl
   ·exact Walks.strAscii hh it x t
   ·exact Walks.strWide hh it x t
  refine W.item i s _ _ hg st fun v h' tk hv st' kk=>?_
  obtain ⟨c, u, e, rfl⟩:=hv
  have I1:Inv X pins σ H { s with heap:=h', toks:=tk }:=I.turned (fun b o hb e=>kk b o (by simpa using hb) e) f0 f1 f3 f4 f5
  obtain ⟨o, eo, co, dd⟩:=id st'
  refine ⟨_, rfl, go_of (s:={ s with heap:=h', toks:=tk }) eo co dd (by rcases hty with rfl | rfl <;> decide) ⟨.str ⟨#[c]⟩, H, I1, ⟨u, rfl⟩, ⟨rfl, c, e, rfl⟩, st', fun b hb=>(hf b hb).1⟩⟩
 done:=by
  intro X hP hw hK hc i pins s σ H E I hf st hg
  subst hP hw hK
  obtain ⟨f0, f1, f2, f3, f4, f5⟩:=hf it (by simp)
  have hh:X.A.handled = none:=I.ok.hd hc
  have hn:x.cps[i]? = none:=by
   have:x.cps.size ≤ i:=hg
   simp [this]
  rcases hty with rfl | rfl
  ·exact wpAny_pyNext_ascii_end hh st hn fun h' eb=>⟨rfl, I.turned (t':=s.toks) (fun b o hb e=>eb b o hb e) f0 f1 f3 f4 f5⟩
  ·exact wpAny_pyNext_wide_end hh st hn fun h' eb=>⟨rfl, I.turned (t':=s.toks) (fun b o hb e=>eb b o hb e) f0 f1 f3 f4 f5⟩
 self:=fun _ _ _ _ _ st h=>by
  rcases hty with rfl | rfl
  ·exact wpAny_pyIter_striter_ascii st h
  ·exact wpAny_pyIter_striter_wide st h
def iStr (te:TE):TI:=fun σ H R=>te σ H fun x H1=>∃ z, x = .str z ∧ R (Its z) H1
theorem pi_str {tg l:Expr} {te:TE} (hl:PE X l te):PI X tg l (iStr te):=by
 intro pins s σ H R I h
 refine thn (hl pins s σ H _ I h) fun v s1 ⟨x, H1, I1, r1, z, e, q⟩=>?_
 subst e
 obtain ⟨t, rfl⟩:=r1
 refine wpAny_pyIter_strU ?_
 refine ⟨s1.heap.objs.size, [s1.heap.objs.size], _, Its z, H1, rfl, I1.kept (t':=s1.toks) fun b o e=>Heap.get?_push_of_some _ e, turn_str _ z t (strIterType z) ?_, ⟨_, Heap.get?_push_size _ rfl, rfl, rfl⟩, fun b hb=>?_, q⟩
 ·unfold strIterType
  cases z.cps.all (· < 128)
  ·exact .inr rfl
  ·exact .inl rfl
 ·rw [List.mem_singleton.mp hb]
  exact I1.fpOk (Nat.le_refl _) (I1.hok.fresh (Nat.le_refl _))
def Ite (K:PySem.W.Frag) (a:Addr):It:=
 ⟨fun i H=>∃ xs x, SqL K H a xs ∧ xs[i]? = some x, fun i H v H'=>∃ T x, H T = none ∧ v = .ref T ∧ H' = upd H T (.tup [.int i, x]) ∧ ∀ xs, SqL K H a xs -> xs[i]? = some x, fun i H=>∃ xs, SqL K H a xs ∧ xs.length ≤ i⟩
theorem turn_enum {P:Program} {w:World} {K:PySem.W.Frag} {elts:List Expr} {k1} {tp:Pos} (a e it:Addr) (hei:e ≠ it):Turn P w K (.Tuple elts k1 tp) (Ite K a) [e, it] e (fun i h=>(∃ old, IsEnum h e it i old) ∧ h.IsListIter it a i) where
 mem:=by simp
 obj:=fun i h st b hb=>by
  obtain ⟨⟨old, he⟩, o, ho, _, hd⟩:=st
  rcases List.mem_cons.mp hb with z | z
  ·rw [z]; exact ⟨_, he, fun v z=>by cases z⟩
  ·rw [List.mem_singleton.mp z]; exact ⟨o, ho, fun v z=>by rw [hd] at z; cases z⟩
 keep:=fun i h h' st k=>by
  obtain ⟨⟨old, he⟩, hit⟩:=st
  exact ⟨⟨old, k e (by simp) _ he⟩, hit.at fun o q=>k it (by simp) o q⟩
 item:=by
  intro X hP hw hK hc i pins s σ H E I hf st hg
  subst hP hw hK
  obtain ⟨xs, x, hq, hx⟩:=hg
  obtain ⟨its, rv, p, hz⟩:=I.list hq
  obtain ⟨u, hu, ru⟩:=rv.get hx
  obtain ⟨⟨old, he⟩, hit⟩:=st
  refine wpAny_pyNext_enum_item he hit p.isList (x:=u) (by simpa using hu) hei fun h' ho hit' hT hsz kp=>⟨_, rfl, ?_⟩
  refine wpAny_letOwnedTupleGo_enum ho fun h2 he2 sb=>?_
  have hT2:h2.get? s.heap.objs.size = some { cls:=.type "tuple", data:=.seq #[.int i s.toks, u] }:=(sb.2 _ (Nat.ne_of_gt (Heap.lt_size he))).trans hT
  have hfree:H s.heap.objs.size = none:=I.hok.fresh (Nat.le_refl _)
  have hilt:it < s.heap.objs.size:=by obtain ⟨_, z, _⟩:=hit; exact Heap.lt_size z
  have I1:Inv X pins σ H { s with heap:=h2, toks:=s.toks + 1 }:=I.turns (fp:=[e, it]) hf fun b o hb q=>(sb.2 b fun z=>hb (by simp [z])).trans (kp b o (fun z=>hb (by simp [z])) (fun z=>hb (by simp [z])) q)
  have I2:Inv X pins σ (upd H s.heap.objs.size (.tup [.int i, x])) { s with heap:=h2, toks:=s.toks + 1 }:=I1.track (I.fpOk (Nat.le_refl _) hfree) ⟨by show 2 ≤ sizeLine; decide, [.int i s.toks, u], .cons ⟨_, rfl⟩ (.cons ru .nil), _, hT2, rfl, _, rfl⟩
  refine ⟨.ref s.heap.objs.size, _, I2, rfl, ⟨s.heap.objs.size, x, hfree, rfl, rfl, fun ys hy=>by rw [I.list_inj hy hq]; exact hx⟩, ⟨⟨u, by simpa using he2⟩, hit'.at fun o q=>(sb.2 it hei.symm).trans q⟩, fun b hb=>?_⟩
  rw [upd_ne]
  ·exact (hf b hb).1
  ·rcases List.mem_cons.mp hb with z | z
   ·rw [z]; exact Nat.ne_of_lt (Heap.lt_size he)
   ·rw [List.mem_singleton.mp z]; exact Nat.ne_of_lt hilt
 done:=by
  intro X hP hw hK hc i pins s σ H E I hf st hg
  subst hP hw hK
  obtain ⟨xs, hq, hx⟩:=hg
  obtain ⟨its, rv, p, hz⟩:=I.list hq
  obtain ⟨⟨old, he⟩, hit⟩:=st
  have hl:=rv.length
  exact wpAny_pyNext_enum_end (I.ok.hd hc) he hit p.isList (by simp; omega) fun h' eb=>⟨rfl, I.turns (fp:=[e, it]) (t':=s.toks) hf fun b o hb q=>eb b o (fun z=>hb (by simp [z])) q⟩
 self:=fun _ _ _ _ _ st h=>by
  obtain ⟨⟨old, he⟩, _⟩:=st
  exact wpAny_pyIter_enum he h
def iEnum (K:PySem.W.Frag) (ta:TA):TI:=fun σ H R=>ta σ H fun vs H1=>∃ a, vs = [.ref a] ∧ (∃ xs, SqL K H1 a xs) ∧ R (Ite K a) H1
theorem pi_enum {a:Expr} {ta:TA} {p pos tp:Pos} {elts:List Expr} {k1} (hg:Gl X "enumerate") (hm:X.mg "enumerate" = none) (ha:PA X [a] ta) (hs:starEach [a] X.env = [(false, eval a X.env)]:=by rfl):PI X (.Tuple elts k1 tp) (.Call (.Name "enumerate" p) [a] [] pos) (iEnum X.K ta):=by
 intro pins s σ H R I h
 refine Call_ (ld_blt I hg hm boot_enumerate (PyProof.Rows.callWith_type1 (thn (ha pos pins s σ H _ I h) fun us s1 ⟨vs, H1, I1, r1, q1⟩=>?_) hs rfl))
 obtain ⟨b, e, ⟨xs, hq⟩, q⟩:=q1
 subst e
 obtain ⟨u, rfl, ru⟩:=vals1 r1
 cases ru
 obtain ⟨its, rv, pl, hz⟩:=I1.list hq
 refine call_enumerate_list pl.isList fun h' he hit hsz kp=>?_
 refine wpAny_pyIter_enum he ?_
 have hfree:∀ c, s1.heap.objs.size ≤ c -> H1 c = none:=fun c hc=>I1.hok.fresh hc
 refine ⟨s1.heap.objs.size + 1, [s1.heap.objs.size + 1, s1.heap.objs.size], _, _, H1, rfl, I1.kept (t':=s1.toks) kp, turn_enum b _ _ (Nat.ne_of_gt (Nat.lt_succ_self _)), ⟨⟨_, by simpa using he⟩, hit⟩, fun c hc=>?_, q⟩
 rcases List.mem_cons.mp hc with z | z
 ·rw [z]; exact I1.fpOk (Nat.le_succ _) (hfree _ (Nat.le_succ _))
 ·rw [List.mem_singleton.mp z]; exact I1.fpOk (Nat.le_refl _) (hfree _ (Nat.le_refl _))
theorem call_listD (hc:X.calm = true):CallR X (.type "list") (fun vs H Q=>∃ d kvs, vs = [.ref d] ∧ Rd H d (.dK kvs) ∧ ∀ l, H l = none -> Q (.ref l) (upd H l (.lst (kvs.map fun kv=>kV kv.1)))):=by
 intro pins s σ H xs us Q I r h
 obtain ⟨d, kvs, rfl, hd, q⟩:=h
 obtain ⟨u, rfl, ru⟩:=vals1 r
 cases ru
 obtain ⟨hz, hs, vs, kv, dd⟩:=dk_rd I.hok hd
 obtain ⟨ep, hat⟩:=dd.dictAt
 have hl:=kv.length
 refine PySem.W.kdl_call (PySem.W.kdl_dict (knd:=mixKind X.prog X.w) (kvs:=vs) (ep:=ep) hs) (I.ok.hd hc) hat (by rw [← hl]; exact hz) fun h' tk acc c kp hD ha=>?_
 have hv:Vals (kvs.map fun kv=>kV kv.1) acc.toList:=keys_vals (P:=X.prog) (w:=X.w) kv (by rw [Array.length_toList]; exact ha.1) fun j v e=>by
  obtain ⟨k, x, e1, e2⟩:=ha.2 j v (by rw [← Array.getElem?_toList]; exact e)
  exact ⟨k, x, e1, e2⟩
 refine ⟨.ref s.heap.objs.size, _, I.laid (o:=.lst (kvs.map fun kv=>kV kv.1)) (t':=tk) kp (Nat.le_refl _) ⟨by rw [List.length_map]; exact hz, acc.toList, c, hv, by rw [Array.toArray_toList]; exact hD⟩, rfl, q _ (I.hok.fresh (Nat.le_refl _))⟩
end
end L2

namespace L2
open PySem PySem.Spec PyProof.Rows
section
variable {X:Cx} {pins:List (Addr × Obj)} {σ:St} {H:Hp} {s:Shared}
theorem Inv.retrack {d:Addr} {u u':HO} (I:Inv X pins σ H s) (e:H d = some u) (h1:∀ xs, u ≠ .tup xs) (h2:∀ b, u ≠ .own b) (h3:∀ ob v, X.H₀ d ≠ some (.frz ob v)) (h4:∀ ps, u ≠ .tbl ps) (new:ObjOk X.prog X.w (upd H d u') s.heap d u'):Inv X pins σ (upd H d u') s:=by
 have nn:∀ b, H b = none -> b ≠ d:=fun b n z=>by rw [z, e] at n; cases n
 refine ⟨I.ok, I.os, I.bare, ⟨I.base.keep, I.base.slot, fun b ob q n hx=>?_, I.base.there, fun b xs q=>?_, fun b ob xs q=>?_, fun b ps q=>?_⟩, I.loc, I.cell, ?_, fun x c q=>?_, fun p hp=>?_, fun b ob q=>?_, I.len⟩
 ·have z:=I.base.free b ob q n hx
  rw [upd_ne (nn b z)]; exact z
 ·have z:=I.base.tups b xs q
  rw [upd_ne fun w=>by rw [w, e] at z; exact h1 xs (Option.some.inj z)]; exact z
 ·have z:=I.base.frzs b ob xs q
  rw [upd_ne fun w=>by rw [w] at q; exact h3 _ _ q]; exact z
 ·obtain ⟨m, z⟩:=I.base.tbls b ps q
  exact ⟨m, by rw [upd_ne fun w=>by rw [w, e] at z; exact h4 _ (Option.some.inj z)]; exact z⟩
 ·rw [upd_ne (nn _ I.free)]; exact I.free
 ·have z:=I.freeC x c q
  rw [upd_ne (nn _ z)]; exact z
 ·obtain ⟨a1, a2, a3, a4, a5⟩:=I.pin p hp
  exact ⟨a1, by rw [upd_ne (nn _ a2)]; exact a2, a3, a4, a5⟩
 ·by_cases hb:b = d
  ·subst hb
   rw [upd_same] at q; cases q
   exact new
  ·rw [upd_ne hb] at q
   exact (I.hok b ob q).stay (fun _ _ _ z=>z) (fun c z=>by rw [upd_ne fun w=>by rw [w, e] at z; exact h2 _ (Option.some.inj z)]; exact z) fun c xs z=>by rw [upd_ne fun w=>by rw [w, e] at z; exact h1 _ (Option.some.inj z)]; exact z
theorem dk_any {P:Program} {w:World} {H H':Hp} {h:Heap} {d:Addr} {kvs:List (Key × V)} (x:ObjOk P w H h d (.dK kvs)):ObjOk P w H' h d (.dK kvs):=x
theorem Inv.noFrz {d:Addr} {kvs:List (Key × V)} (I:Inv X pins σ H s) (e:H d = some (.dK kvs)):∀ ob v, X.H₀ d ≠ some (.frz ob v):=fun ob v q=>by
 have:=I.base.frzs d ob v q
 rw [e] at this
 cases this
theorem Inv.freeze {d:Addr} {kvs:List (Key × V)} {o:Obj} (I:Inv X pins σ H s) (e:H d = some (.dK kvs)) (ho:s.heap.get? d = some o):Inv X pins σ (upd H d (.frz o (.dK kvs))) s:=
 I.retrack e (fun xs z=>by cases z) (fun b z=>by cases z) (I.noFrz e) (fun ps z=>by cases z) ⟨ho, dk_any (I.hok d _ e)⟩
theorem Inv.thaw {d:Addr} {kvs:List (Key × V)} {o:Obj} (I:Inv X pins σ H s) (e:H d = some (.frz o (.dK kvs))) (h3:∀ ob v, X.H₀ d ≠ some (.frz ob v)):Inv X pins σ (upd H d (.dK kvs)) s:=
 I.retrack e (fun xs z=>by cases z) (fun b z=>by cases z) h3 (fun ps z=>by cases z) (dk_any (I.hok d _ e).2)
theorem frz_dict {d:Addr} {o:Obj} {es:Array DictEntry} {ep:Nat} {kvs:List (Key × V)} (I:Inv X pins σ H s) (e:H d = some (.frz o (.dK kvs))) (hd:o.data = .dict es ep):∃ vs, KV kvs vs ∧ s.heap.DictAt (mixKind X.prog X.w) d vs ep:=by
 obtain ⟨ho, _, _, vs, kv, o', es', ep', ho', r1, r2, r⟩:=I.hok d _ e
 have:o' = o:=Option.some.inj (ho'.symm.trans ho)
 subst this
 rw [hd] at r2
 cases r2
 exact ⟨vs, kv, o', es, ho, r1, hd, r⟩
theorem key_rel {P:Program} {w:World} {k:Key} {v:Value} (h:(mixKind P w).is k v = true):RelV (kV k) v:=by
 rcases keyIs_shape (show keyIs k v = true from h) with ⟨i, t', rfl, rfl⟩ | ⟨x, t', rfl, rfl⟩
 ·exact ⟨t', rfl⟩
 ·exact ⟨t', rfl⟩
theorem kv_get {kvs:List (Key × V)} {vs:List (Key × Value)}:KV kvs vs -> ∀ {i:Nat} {k:Key} {v:V}, kvs[i]? = some (k, v) -> ∃ u, vs[i]? = some (k, u) ∧ RelV v u:=by
 intro r
 induction r with
 | nil=>intro i k v e; simp at e
 | @cons a b l1 l2 h t ih=>
   intro i k v e
   cases i with
   | zero=>
     obtain ⟨k', u⟩:=b
     have e':a = (k, v):=by simpa using e
     subst e'
     have hk:k = k':=h.1
     subst hk
     exact ⟨u, rfl, h.2⟩
   | succ i=>
     obtain ⟨u, h1, h2⟩:=ih (i:=i) (by simpa using e)
     exact ⟨u, by simpa using h1, h2⟩
end
structure FunD (K:PySem.W.Frag) (x qual:Str) (st:Stmt) (f:Addr) (fd:FuncData) (ds:List Value):Prop where
 ex:∃ (oc:Value) (od:Option Addr) (T:Addr) (kV doc pm:Value) (an:Option Addr) (cdv ct:Value) (osl:Array (Option Value)) (ot:Value) (tod:Option Addr) (n:Nat) (tsl:Array (Option Value)),
  fd = PySem.W.fnOf x qual (defArgs st) (defBody st) (defScope st) (.ref T) kV doc pm an cdv ct ∧ K.lookup f = some ⟨oc, od, .func fd, osl⟩ ∧ PySem.W.codeIn K cdv qual = true ∧ K.lookup T = some ⟨ot, tod, .seq ds.toArray n, tsl⟩
 kp:PySem.W.keepIn K (.ref f) = true
section
variable {P:Program} {w:World} {K:PySem.W.Frag} {mg:Str -> Option Value} {base:Heap}
theorem FunD.ok {x qual:Str} {st:Stmt} {f:Addr} {fd:FuncData} {ds:List Value} {N ps:List Str} {k:Nat} {sp:Sp} (F:FunD K x qual st f fd ds) (S:FnScope N ps (defScope st)) (len:∀ vs H Q E, sp vs H Q E -> vs.length = ps.length)
  (hbody:∀ (cdv:Value) (A:Around) (outer:List Env) (s:Shared) (H:Hp) (vs:List V) (Q:VK) (E:XK), Room k (A.deeper (envOfC qual (defScope st) s.heap.objs.size f cdv)) -> sp vs H Q E ->
    ∃ t, PSs (cxOf CX0 P w K mg base N qual (defScope st) f cdv A outer s H E).nox (defBody st) t ∧ t { nx:=fun _ H'=>Q .non H', rt:=Q } (start N vs) H):FnOk P w K mg base CX0 (k + 1) f fd ps sp:=by
 obtain ⟨oc, od, T, kV, doc, pm, an, cdv, ct, osl, ot, tod, n, tsl, rfl, lk, hcd, lt⟩:=F.ex
 refine fn_of lk hcd S len fun A outer s H vs Q E hr hsp=>?_
 obtain ⟨t, h, q⟩:=hbody cdv A outer s H vs Q E hr hsp
 exact ⟨t, h.nox, q⟩
theorem funD_mk {x qual:Str} {st:Stmt} {f T:Addr} {oc:Value} {od an:Option Addr} {osl:Array (Option Value)} {kV doc pm cdv ct:Value} {ot:Value} {tod:Option Addr} {n:Nat} {tsl:Array (Option Value)} {ds:List Value}
  (l:K.lookup f = some ⟨oc, od, .func (PySem.W.fnOf x qual (defArgs st) (defBody st) (defScope st) (.ref T) kV doc pm an cdv ct), osl⟩) (c:PySem.W.codeIn K cdv qual = true) (k:PySem.W.keepIn K (.ref f) = true) (lt:K.lookup T = some ⟨ot, tod, .seq ds.toArray n, tsl⟩) :
  FunD K x qual st f (PySem.W.fnOf x qual (defArgs st) (defBody st) (defScope st) (.ref T) kV doc pm an cdv ct) ds:=⟨⟨oc, od, T, kV, doc, pm, an, cdv, ct, osl, ot, tod, n, tsl, rfl, l, c, lt⟩, k⟩
theorem FunD.binds {x qual:Str} {st:Stmt} {f:Addr} {fd:FuncData} {ds more:List Value} {ps:List Str} (F:FunD K x qual st f fd ds)
  (h:∀ (T:Addr) (kV doc pm:Value) (an:Option Addr) (cdv ct:Value) (us:List Value), (us ++ more).length = ps.length -> ∃ k:Option (Array Value) -> Sem (List (Str × Value)),
    bindArgs (PySem.W.fnOf x qual (defArgs st) (defBody st) (defScope st) (.ref T) kV doc pm an cdv ct) ⟨us, []⟩ = seqItems? (.ref T) >>= k ∧ k (some ds.toArray) = pure (ps.zip (us ++ more))):Binds K fd ps more:=by
 obtain ⟨oc, od, T, kV, doc, pm, an, cdv, ct, osl, ot, tod, n, tsl, rfl, lk, hcd, lt⟩:=F.ex
 intro s us KX hl
 obtain ⟨k, h1, h2⟩:=h T kV doc pm an cdv ct us hl
 exact BindsTo.of_defaults rfl (KX _ _ lt) rfl h1 h2
end
end L2

namespace L2
open PySem PySem.Spec PyProof.Rows
section
variable {X:Cx} {pins:List (Addr × Obj)} {σ:St} {H:Hp}
theorem FpOk.turned {s:Shared} {h':Heap} {t':Nat} {it:Addr} (f:FpOk X pins H it) (I:Inv X pins σ H s) (k:∀ b o, b ≠ it -> s.heap.get? b = some o -> h'.get? b = some o):Inv X pins σ H { s with heap:=h', toks:=t' }:=by
 obtain ⟨g0, g1, _, g3, g4, g5⟩:=f
 exact I.turned k g0 g1 g3 g4 g5
def Least (zs:List (V × List Int)) (i n:Nat):Prop:=i < n ∧ ∀ j y z, j < n -> zs[j]? = some y -> zs[i]? = some z -> HT.lexLt y.2 z.2 = false
theorem lex_tr2 {a b c:List Int} (h1:HT.lexLt a b = true) (h2:HT.lexLt c b = false):HT.lexLt c a = false:=by
 cases e:HT.lexLt c a with
 | false=>rfl
 | true=>
   have:=lexLt_tr e h1
   rw [h2] at this
   cases this
theorem minK_loop {kk:Nat} {g a q d S It:Addr} {fd:FuncData} {ps:List Str} {sp:Sp} {A:Around} {R:Result -> Shared -> Prop} {zs:List (V × List Int)} {kvs:List (Key × V)} {o:Obj} {es:Array DictEntry} {ep:Nat}
  (hh:A.handled = none) (hu:A.in1.units < cLine) (F:FnOk X.prog X.w X.K X.mg X.base CX0 kk g fd ps sp) (hr:Room kk A.in1) (hA:A.in1.frames = X.A.frames) (hb:Binds X.K fd ps []) (hdata:o.data = .dict es ep) (hzs:zs.map (·.1) = kvs.map fun kv=>kV kv.1)
  (hsp:∀ z ∈ zs, ∀ (H':Hp) (Q':VK), Same H H' -> (∀ t, H' t = none -> Q' (.ref t) (upd H' t (.tup (z.2.map V.int)))) -> sp [.ref a, z.1] H' Q' E0)
  (hfz:H d = some (.frz o (.dK kvs))) (hq:H q = some (.met g a)) (hIS:It ≠ S)
  (hR:∀ (i:Nat) (z:V × List Int) (u:Value) (H':Hp) (s':Shared), zs[i]? = some z -> RelV z.1 u -> Least zs i zs.length -> Same H H' -> Inv X pins σ H' s' -> R (.ok (.ret u)) s') :
  ∀ (r j i:Nat) (s:Shared) (H':Hp) (vb:Value) (tb:Addr) (c:Nat) (z:V × List Int), zs.length - (j + 1) = r -> j + 1 ≤ zs.length -> Same H H' -> Inv X pins σ H' s -> FpOk X pins H' It -> FpOk X pins H' S ->
   s.heap.IsKeyIter It d (j + 1) kvs.length ep -> s.heap.get? S = some (seqObj "list" #[vb, .ref tb] c) -> zs[i]? = some z -> RelV z.1 vb -> H' tb = some (.tup (z.2.map V.int)) -> Least zs i (j + 1) ->
   codeAny (model X.prog X.w) A (.builtin "min.loop" ⟨[.ref It, .ref q, .ref S], []⟩) R s:=by
 have hname:(toString "min" ++ toString ".loop":String) = "min.loop":=by decide
 have hzl:zs.length = kvs.length:=by have:=congrArg List.length hzs; rw [List.length_map, List.length_map] at this; exact this
 intro r
 induction r with
 | zero=>
   intro j i s H' vb tb c z hr0 hj S1 I fI fS hit hS hz rz ht hL
   have hin:j + 1 = zs.length:=by omega
   obtain ⟨vs, kv, hat⟩:=frz_dict I (S1 _ _ hfz) hdata
   have hl:=kv.length
   refine codeAny_builtin PySem.F.entry_min_loop ?_
   rw [Around.under_plainId PySem.F.plain_min_loop _]
   show wpAny _ A.in1 (seqItems? (.ref S) >>= _) _ _ _
   refine wpAny_bind (wpAny_seqItems hS rfl ?_)
   show wpAny _ A.in1 (tryCatch (pyNext (.ref It)) _ >>= _) _ _ _
   refine wpAny_bind (wpAny_tryCatch (wpAny_pyNext_dict_end (knd:=mixKind X.prog X.w) (A:=A.in1) hh (by rw [← hl]; exact hit) hat (by simp; omega) fun h' eb=>?_))
   have I1:Inv X pins σ H' { s with heap:=h' }:=fI.turned (t':=s.toks) I fun b u hb e=>eb b u hb e
   have hS':=eb S _ (Ne.symm hIS) hS
   have s1:=Heap.SameBut.update h' S (Obj.mapSeq fun _=>(#[]:Array Value))
   show wpAny _ A.in1 (updateSeq S (fun _=>#[]) >>= _) _ _ _
   refine wpAny_bind ?_
   refine wpAny_updateSeq hS' rfl (wpAny_bind (wpAny_letGo (wpAny_pure ?_)))
   exact hR i z vb H' _ hz rz (by rw [← hin]; exact hL) S1 (fS.turned (s:={ s with heap:=h' }) (t':=s.toks) I1 fun b u hb e=>(s1.2 b hb).trans e)
 | succ r ih=>
   intro j i s H' vb tb c z hr0 hj S1 I fI fS hit hS hz rz ht hL
   have hlt:j + 1 < zs.length:=by omega
   obtain ⟨vs, kv, hat⟩:=frz_dict I (S1 _ _ hfz) hdata
   have hl:=kv.length
   have hkj:j + 1 < kvs.length:=by omega
   obtain ⟨u, hu1, ru⟩:=kv_get kv (i:=j + 1) (k:=kvs[j + 1].1) (v:=kvs[j + 1].2) (by simp [hkj])
   refine codeAny_builtin PySem.F.entry_min_loop ?_
   rw [Around.under_plainId PySem.F.plain_min_loop _]
   show wpAny _ A.in1 (seqItems? (.ref S) >>= _) _ _ _
   refine wpAny_bind (wpAny_seqItems hS rfl ?_)
   show wpAny _ A.in1 (tryCatch (pyNext (.ref It)) _ >>= _) _ _ _
   refine wpAny_bind (wpAny_tryCatch (wpAny_pyNext_dict_item (knd:=mixKind X.prog X.w) (A:=A.in1) (by rw [← hl]; exact hit) hat hu1 fun key h' hkey hit' sb=>?_))
   have I1:Inv X pins σ H' { s with heap:=h' }:=fI.turned (t':=s.toks) I fun b u hb e=>(sb.2 b hb).trans e
   have hS':h'.get? S = some (seqObj "list" #[vb, .ref tb] c):=(sb.2 S (Ne.symm hIS)).trans hS
   obtain ⟨oI, hoI, hoc, hod⟩:=id hit'
   have hzj:zs[j + 1]? = some zs[j + 1]:=List.getElem?_eq_getElem hlt
   have ek:zs[j + 1].1 = kV kvs[j + 1].1:=by
    have h1:(zs.map (·.1))[j + 1]? = some zs[j + 1].1:=by rw [List.getElem?_map, hzj]; rfl
    have h2:(kvs.map fun kv=>kV kv.1)[j + 1]? = some (kV kvs[j + 1].1):=by rw [List.getElem?_map, List.getElem?_eq_getElem hkj]; rfl
    rw [hzs, h2] at h1
    exact (Option.some.inj h1).symm
   have rk:RelV zs[j + 1].1 key:=by rw [ek]; exact key_rel hkey
   have hzm:zs[j + 1] ∈ zs:=List.getElem_mem _
   generalize zs[j + 1] = y at hzj rk hzm
   have nI:∀ v, oI.data ≠ .cell v:=fun v e=>by rw [hod] at e; cases e
   obtain ⟨fI0, fI1, fI2, fI3, fI4, fI5⟩:=id fI
   obtain ⟨fS0, fS1, fS2, fS3, fS4, fS5⟩:=id fS
   have I2:Inv X [(It, oI), (S, seqObj "list" #[vb, .ref tb] c)] σ H' { s with heap:=h' }:=I1.pins_of fun p hp=>by
    rcases List.mem_cons.mp hp with rfl | hp
    ·exact ⟨hoI, fI0, fI1, fI2, nI⟩
    ·rw [List.mem_singleton.mp hp]; exact ⟨hS', fS0, fS1, fS2, noSeqCell⟩
   have I2:Inv X (pins ++ [(It, oI), (S, seqObj "list" #[vb, .ref tb] c)]) σ H' { s with heap:=h' }:=I1.pins_of fun p hp=>by
    rcases List.mem_append.mp hp with hp | hp
    ·exact I1.pin p (List.mem_append_right _ hp)
    ·exact I2.pin p (List.mem_append_right _ hp)
   show wpAny _ A.in1 (tryCatch (holding [key] (call (.ref q) [key])) _ >>= _) _ _ _
   refine wpAny_bind (wpAny_tryCatch (wpAny_holding (wpAny_mono (method_run (CX:=CX0) (Q:=fun v H3=>∃ t, v = .ref t ∧ H' t = none ∧ H3 = upd H' t (.tup (y.2.map V.int))) (E:=fun _ _=>False) F hr hA hb I2 (S1 _ _ hq) rk (hsp y hzm H' _ S1 fun t ht=>⟨t, rfl, ht, rfl⟩)) (fun k' s3 hk3=>?_) fun _ _ f=>f.elim)))
   obtain ⟨v, H3, I3, r3, t, rfl, ht3, rfl⟩:=hk3
   cases r3
   have S3:Same H' (upd H' t (.tup (y.2.map V.int))):=fun b o e=>by rw [upd_ne (ne_of_none e ht3)]; exact e
   have htt:(upd H' t (.tup (y.2.map V.int))) t = some (.tup (y.2.map V.int)):=upd_same
   obtain ⟨pI, nI3, _, _, _⟩:=I3.pin (It, oI) (by simp)
   obtain ⟨pS, nS3, _, _, _⟩:=I3.pin (S, seqObj "list" #[vb, .ref tb] c) (by simp)
   have I4:=I3.unpinned
   have fI':=fI.heap nI3
   have fS':=fS.heap nS3
   have htb:=S3 _ _ ht
   generalize upd H' t (.tup (y.2.map V.int)) = H3 at *
   obtain ⟨its, r1, p1, _⟩:=I4.tuple (SqT.of htt)
   obtain ⟨its2, r2, p2, _⟩:=I4.tuple (SqT.of htb)
   have hit3:s3.heap.IsKeyIter It d (j + 1 + 1) kvs.length ep:=⟨oI, pI, hoc, by rw [hod, hl]⟩
   show wpAny _ A.in1 (tryCatch (holding [key, .ref t] (richCompare .Lt (.ref t) (.ref tb) >>= _)) _ >>= _) _ _ _
   refine wpAny_bind (wpAny_tryCatch (wpAny_holding (wpAny_bind ?_)))
   refine (HT.lt_tupInts (prog:=X.prog) (w:=X.w) (A:=A.in1) p1 p2 (intsAre_of r1) (intsAre_of r2) hu ?_:wpAny (model X.prog X.w) A.in1 (compareOp .Lt (.ref t) (.ref tb)) _ _ s3)
   refine wpAny_bind (wpAny_holding (wpAny_truthy_bool ?_))
   refine wpAny_bind (wpAny_letGo (wpAny_pure ?_))
   cases hb':HT.lexLt y.2 z.2 with
   | true=>
     have s1:=Heap.SameBut.update s3.heap S (Obj.mapSeq fun _=>#[key, .ref t])
     obtain ⟨c2, hc2⟩:∃ c2, (s3.heap.update S (Obj.mapSeq fun _=>#[key, .ref t])).get? S = some (seqObj "list" #[key, .ref t] c2):=⟨_, get?_update_seq pS fun _=>#[key, .ref t]⟩
     simp only [if_true]
     refine wpAny_bind ?_
     refine wpAny_updateSeq pS rfl (wpAny_bind (wpAny_letGo ?_))
     rw [hname]
     have I5:Inv X pins σ H3 { s3 with heap:=s3.heap.update S (Obj.mapSeq fun _=>#[key, .ref t]) }:=fS'.turned (t':=s3.toks) I4 fun b u hb e=>(s1.2 b hb).trans e
     refine wpAny_pure ⟨plainId_quiet PySem.F.plain_min_loop _, ih (j + 1) (j + 1) _ H3 key t c2 y (by omega) hlt (S1.trans S3) I5 fI' fS' ⟨oI, (s1.2 It hIS).trans pI, hoc, by rw [hod, hl]⟩ hc2 hzj rk htt ⟨Nat.lt_succ_self _, fun j' y' z' hj' hy' hz'=>?_⟩⟩
     rw [hzj] at hz'
     cases hz'
     by_cases e:j' = j + 1
     ·subst e
      rw [hzj] at hy'
      cases hy'
      exact lexLt_irr _
     ·exact lex_tr2 hb' (hL.2 j' y' z (by omega) hy' hz)
   | false=>
     simp only [Bool.false_eq_true, if_false]
     refine wpAny_bind (wpAny_letGo ?_)
     rw [hname]
     refine wpAny_pure ⟨plainId_quiet PySem.F.plain_min_loop _, ih (j + 1) i _ H3 vb tb c z (by omega) hlt (S1.trans S3) I4 fI' fS' hit3 pS hz rz htb ⟨Nat.lt_succ_of_lt hL.1, fun j' y' z' hj' hy' hz'=>?_⟩⟩
     rw [hz] at hz'
     cases hz'
     by_cases e:j' = j + 1
     ·subst e
      rw [hzj] at hy'
      cases hy'
      exact hb'
     ·exact hL.2 j' y' z (by omega) hy' hz
def rMinK (g:Addr) (sp:Sp) (x f:V) (H:Hp) (Q:VK):Prop:=∃ (q a d:Addr) (kvs:List (Key × V)) (zs:List (V × List Int)), x = .ref d ∧ f = .ref q ∧ H q = some (.met g a) ∧ H d = some (.dK kvs) ∧ zs.map (·.1) = (kvs.map fun kv=>kV kv.1) ∧ zs ≠ [] ∧
 (∀ (o:Obj), ∀ z ∈ zs, ∀ (H':Hp) (Q':VK), Same (upd H d (.frz o (.dK kvs))) H' -> (∀ t, H' t = none -> Q' (.ref t) (upd H' t (.tup (z.2.map V.int)))) -> sp [.ref a, z.1] H' Q' E0) ∧
 ∀ z ∈ zs, (∀ y ∈ zs, HT.lexLt y.2 z.2 = false) -> ∀ H', Same H H' -> Q z.1 H'
def tMinK (g:Addr) (sp:Sp) (ti tk:TE):TE:=fun σ H Q=>ti σ H fun x H1=>tk σ H1 fun f H2=>rMinK g sp x f H2 Q
theorem minK_call {kk:Nat} {g:Addr} {fd:FuncData} {ps:List Str} {sp:Sp} {x f:V} {u v:Value} {Q:VK} {s:Shared} (hc:X.calm = true) (F:FnOk X.prog X.w X.K X.mg X.base CX0 kk g fd ps sp) (hr:Room (kk + 2) X.A) (hb:Binds X.K fd ps []) (I:Inv X pins σ H s) (rx:RelV x u) (rf:RelV f v) (h:rMinK g sp x f H Q) :
  wpAny (model X.prog X.w) X.A (call (.builtin "min") [u] [(Str.ofString "key", v)]) (EP X pins σ Q) X.xe s:=by
 obtain ⟨q, a, d, kvs, zs, rfl, rfl, hq, hd, hzs, hne, hsp, hQ⟩:=h
 cases rf
 cases rx
 have hname:(toString "min" ++ toString ".loop":String) = "min.loop":=by decide
 have hh:X.A.handled = none:=I.ok.hd hc
 have hzl:zs.length = kvs.length:=by have:=congrArg List.length hzs; rw [List.length_map, List.length_map] at this; exact this
 have hpos:0 < zs.length:=List.length_pos_iff.mpr hne
 have hu:X.A.in1.units < cLine:=Nat.lt_of_succ_lt (hu_of hr.in1)
 obtain ⟨hz, hsm, vs, kv, hD⟩:kvs.length ≤ sizeLine ∧ (d == sysModules) = false ∧ ∃ vs, KV kvs vs ∧ s.heap.DictOf (mixKind X.prog X.w) d vs:=I.hok d _ hd
 obtain ⟨o, es, ep, ho, hcl, hdata, hrest⟩:=hD
 have hl:=kv.length
 have If:=I.freeze hd ho
 have hfz:(upd H d (.frz o (.dK kvs))) d = some (.frz o (.dK kvs)):=upd_same
 have hqd:q ≠ d:=ne_of hq hd (by intro z; cases z)
 have hqf:(upd H d (.frz o (.dK kvs))) q = some (.met g a):=by rw [upd_ne hqd]; exact hq
 have hnf:=I.noFrz hd
 refine kmk_tree PySem.F.kind_min PySem.F.plain_min PySem.F.entry_min (kmk_min_key _ _) ?_
 show wpAny _ X.A.in1 (Builtin.Builtins.bindParams "min" ["key", "default"] 0 ⟨[], [(Str.ofString "key", .ref q)]⟩ >>= _) _ _ s
 refine wpAny_bind (wpAny_of_eq (show Builtin.Builtins.bindParams "min" ["key", "default"] 0 ⟨[], [(Str.ofString "key", .ref q)]⟩ = pure [some (.ref q), none] from rfl) ?_)
 refine wpAny_bind (wpAny_pure ?_)
 obtain ⟨vs', kv', hat⟩:=frz_dict If hfz hdata
 have hl':=kv'.length
 refine wpAny_bind (wpAny_pyIter_dict (knd:=mixKind X.prog X.w) hsm hat ?_)
 refine wpAny_bind (wpAny_newList ?_ (Nat.zero_le _))
 rw [hname]
 have gI0:((s.heap.push { cls:=.type "dict_keyiterator", data:=.fields #[.ref d, .int 0 0, .int vs'.length 0, .int ep 0] }).push (seqObj "list" #[] 0)).get? s.heap.objs.size = some { cls:=.type "dict_keyiterator", data:=.fields #[.ref d, .int 0 0, .int vs'.length 0, .int ep 0] }:=
  Heap.get?_push_of_some _ (Heap.get?_push_size _ rfl)
 have hS1:(s.heap.push { cls:=.type "dict_keyiterator", data:=.fields #[.ref d, .int 0 0, .int vs'.length 0, .int ep 0] }).objs.size = s.heap.objs.size + 1:=size_push' ..
 have gS0:((s.heap.push { cls:=.type "dict_keyiterator", data:=.fields #[.ref d, .int 0 0, .int vs'.length 0, .int ep 0] }).push (seqObj "list" #[] 0)).get? (s.heap.objs.size + 1) = some (seqObj "list" #[] 0):=by
  rw [← hS1]; exact Heap.get?_push_size _ rfl
 have hIS:s.heap.objs.size ≠ s.heap.objs.size + 1:=Nat.ne_of_lt (Nat.lt_succ_self _)
 have kp0:∀ b u, s.heap.get? b = some u -> ((s.heap.push { cls:=.type "dict_keyiterator", data:=.fields #[.ref d, .int 0 0, .int vs'.length 0, .int ep 0] }).push (seqObj "list" #[] 0)).get? b = some u:=fun b u e=>Heap.get?_push_of_some _ (Heap.get?_push_of_some _ e)
 have fI:FpOk X pins (upd H d (.frz o (.dK kvs))) s.heap.objs.size:=If.fpOk (Nat.le_refl _) (If.hok.fresh (Nat.le_refl _))
 have fS:FpOk X pins (upd H d (.frz o (.dK kvs))) (s.heap.objs.size + 1):=If.fpOk (Nat.le_succ _) (If.hok.fresh (Nat.le_succ _))
 have I0:=If.kept (t':=s.toks) kp0
 have hit0:((s.heap.push { cls:=.type "dict_keyiterator", data:=.fields #[.ref d, .int 0 0, .int vs'.length 0, .int ep 0] }).push (seqObj "list" #[] 0)).IsKeyIter s.heap.objs.size d 0 vs'.length ep:=⟨_, gI0, rfl, rfl⟩
 have hat0:=(hat.push { cls:=.type "dict_keyiterator", data:=.fields #[.ref d, .int 0 0, .int vs'.length 0, .int ep 0] }).push (seqObj "list" #[] 0)
 rw [hS1]
 generalize (s.heap.push { cls:=.type "dict_keyiterator", data:=.fields #[.ref d, .int 0 0, .int vs'.length 0, .int ep 0] }).push (seqObj "list" #[] 0) = h0 at *
 generalize s.heap.objs.size = It at *
 generalize It + 1 = S at *
 refine wpAny_pure ⟨plainId_quiet PySem.F.plain_min_loop _, ?_⟩
 refine codeAny_builtin PySem.F.entry_min_loop ?_
 rw [Around.under_plainId PySem.F.plain_min_loop _]
 show wpAny _ X.A.in1 (seqItems? (.ref _) >>= _) _ _ _
 refine wpAny_bind (wpAny_seqItems gS0 rfl ?_)
 show wpAny _ X.A.in1 (tryCatch (pyNext (.ref It)) _ >>= _) _ _ _
 have hk0:0 < kvs.length:=by omega
 obtain ⟨u, hu1, ru⟩:=kv_get kv' (i:=0) (k:=kvs[0].1) (v:=kvs[0].2) (by simp [hk0])
 refine wpAny_bind (wpAny_tryCatch (wpAny_pyNext_dict_item (knd:=mixKind X.prog X.w) (A:=X.A.in1) hit0 hat0 hu1 fun key h' hkey hit' sb=>?_))
 have I1:Inv X pins σ (upd H d (.frz o (.dK kvs))) { s with heap:=h' }:=fI.turned (s:={ s with heap:=h0 }) (t':=s.toks) I0 fun b u hb e=>(sb.2 b hb).trans e
 have hS':h'.get? S = some (seqObj "list" #[] 0):=(sb.2 S (Ne.symm hIS)).trans gS0
 obtain ⟨oI, hoI, hoc, hod⟩:=id hit'
 have hzj:zs[0]? = some zs[0]:=List.getElem?_eq_getElem hpos
 have ek:zs[0].1 = kV kvs[0].1:=by
  have h1:(zs.map (·.1))[0]? = some zs[0].1:=by rw [List.getElem?_map, hzj]; rfl
  have h2:(kvs.map fun kv=>kV kv.1)[0]? = some (kV kvs[0].1):=by rw [List.getElem?_map, List.getElem?_eq_getElem hk0]; rfl
  rw [hzs, h2] at h1
  exact (Option.some.inj h1).symm
 have rk:RelV zs[0].1 key:=by rw [ek]; exact key_rel hkey
 have hzm:zs[0] ∈ zs:=List.getElem_mem _
 generalize zs[0] = y at hzj rk hzm
 have nI:∀ v, oI.data ≠ .cell v:=fun v e=>by rw [hod] at e; cases e
 obtain ⟨fI0, fI1, fI2, fI3, fI4, fI5⟩:=id fI
 obtain ⟨fS0, fS1, fS2, fS3, fS4, fS5⟩:=id fS
 have I2:Inv X (pins ++ [(It, oI), (S, seqObj "list" #[] 0)]) σ (upd H d (.frz o (.dK kvs))) { s with heap:=h' }:=I1.pins_of fun p hp=>by
  rcases List.mem_append.mp hp with hp | hp
  ·exact I1.pin p (List.mem_append_right _ hp)
  ·rcases List.mem_cons.mp hp with rfl | hp
   ·exact ⟨hoI, fI0, fI1, fI2, nI⟩
   ·rw [List.mem_singleton.mp hp]; exact ⟨hS', fS0, fS1, fS2, noSeqCell⟩
 show wpAny _ X.A.in1 (tryCatch (holding [key] (call (.ref q) [key])) _ >>= _) _ _ _
 refine wpAny_bind (wpAny_tryCatch (wpAny_holding (wpAny_mono (method_run (CX:=CX0) (Q:=fun v H3=>∃ t, v = .ref t ∧ (upd H d (.frz o (.dK kvs))) t = none ∧ H3 = upd (upd H d (.frz o (.dK kvs))) t (.tup (y.2.map V.int))) (E:=fun _ _=>False) F (hr.mono (by omega)).in1 rfl hb I2 hqf rk (hsp o y hzm _ _ (Same.refl _) fun t ht=>⟨t, rfl, ht, rfl⟩)) (fun k' s3 hk3=>?_) fun _ _ f=>f.elim)))
 obtain ⟨v, H3, I3, r3, t, rfl, ht3, rfl⟩:=hk3
 cases r3
 have S3:Same (upd H d (.frz o (.dK kvs))) (upd (upd H d (.frz o (.dK kvs))) t (.tup (y.2.map V.int))):=fun b o e=>by rw [upd_ne (ne_of_none e ht3)]; exact e
 have htt:(upd (upd H d (.frz o (.dK kvs))) t (.tup (y.2.map V.int))) t = some (.tup (y.2.map V.int)):=upd_same
 obtain ⟨pI, nI3, _, _, _⟩:=I3.pin (It, oI) (by simp)
 obtain ⟨pS, nS3, _, _, _⟩:=I3.pin (S, seqObj "list" #[] 0) (by simp)
 have I4:=I3.unpinned
 have fI':=fI.heap nI3
 have fS':=fS.heap nS3
 generalize upd (upd H d (.frz o (.dK kvs))) t (.tup (y.2.map V.int)) = H3 at *
 have s1:=Heap.SameBut.update s3.heap S (Obj.mapSeq fun _=>#[key, .ref t])
 obtain ⟨c2, hc2⟩:∃ c2, (s3.heap.update S (Obj.mapSeq fun _=>#[key, .ref t])).get? S = some (seqObj "list" #[key, .ref t] c2):=⟨_, get?_update_seq pS fun _=>#[key, .ref t]⟩
 show wpAny _ X.A.in1 (updateSeq S (fun _=>#[key, .ref t]) >>= _) _ _ _
 refine wpAny_bind ?_
 refine wpAny_updateSeq pS rfl ?_
 rw [hname]
 have I5:Inv X pins σ H3 { s3 with heap:=s3.heap.update S (Obj.mapSeq fun _=>#[key, .ref t]) }:=fS'.turned (t':=s3.toks) I4 fun b u hb e=>(s1.2 b hb).trans e
 refine wpAny_pure ⟨plainId_quiet PySem.F.plain_min_loop _, minK_loop (H:=upd H d (.frz o (.dK kvs))) hh hu F (hr.mono (by omega)).in1 rfl hb hdata hzs (hsp o) hfz hqf hIS ?_ _ 0 0 _ H3 key t c2 y rfl hpos S3 I5 fI' fS' ⟨oI, (s1.2 It hIS).trans pI, hoc, by rw [hod, hl']⟩ hc2 hzj rk htt ⟨Nat.lt_succ_self _, fun j' y' z' hj' hy' hz'=>?_⟩⟩
 ·intro i z u H' s' hz ru hL SS I'
  have hfz':=SS _ _ hfz
  refine ⟨z.1, upd H' d (.dK kvs), I'.thaw hfz' hnf, ru, hQ z (List.mem_of_getElem? hz) (fun y hy=>?_) _ fun b u e=>?_⟩
  ·obtain ⟨j, hj, rfl⟩:=List.getElem_of_mem hy
   exact hL.2 j _ z hj (List.getElem?_eq_getElem hj) hz
  ·by_cases hbd:b = d
   ·subst hbd; rw [upd_same, ← hd, e]
   ·rw [upd_ne hbd]
    exact SS b u (by rw [upd_ne hbd]; exact e)
 ·have:j' = 0:=by omega
  subst this
  rw [hy'] at hz'
  cases hz'
  exact lexLt_irr _
theorem pe_minK {kk:Nat} {g:Addr} {fd:FuncData} {ps:List Str} {sp:Sp} {e f:Expr} {ti tk:TE} {p pos kpos:Pos} (hc:X.calm = true) (F:FnOk X.prog X.w X.K X.mg X.base CX0 kk g fd ps sp) (hr:Room (kk + 2) X.A) (hb:Binds X.K fd ps []) (hg:Gl X "min") (hm:X.mg "min" = none)
  (he:PE X e ti) (hf:PE X f tk) (hs:starEach [e] X.env = (false, eval e X.env) :: starEach [] X.env:=by rfl) (hbt:backTo pos (starEach [e] X.env) = (false, eval e X.env) :: backTo pos (starEach [] X.env):=by rfl)
  (hpl:(backTo pos (starEach [e] X.env)).any (·.1) = false:=by rfl):PE X (.Call (.Name "min" p) [e] [⟨some "key", f, kpos⟩] pos) (tMinK g sp ti tk):=by
 intro pins s σ H Q I h
 refine wpAny_Call_Name_kw (ld_blt I hg hm boot_min ?_ (by decide) (by decide))
 refine callWith_kw (thn ((pa_cons he pa_nil hs) pos pins s σ H (one1 fun x H1=>tk σ H1 fun f H2=>rMinK g sp x f H2 Q) I h) fun us s1 ⟨vs, H1, I1, r1, q1⟩=>?_) hbt hpl rfl rfl
 obtain ⟨x, rfl, q1⟩:=one1_of q1
 obtain ⟨u, rfl, ru⟩:=vals1 r1
 refine thn ((pk_cons hf pk_nil) pos pins s1 σ H1 (one1 fun f H2=>rMinK g sp x f H2 Q) I1 q1) fun ws s2 ⟨zs, H2, I2, r2, q2⟩=>?_
 obtain ⟨f', rfl, q2⟩:=one1_of q2
 obtain ⟨v, rfl, rv⟩:=vals1 r2
 exact minK_call hc F hr hb I2 ru rv q2
end
end L2

namespace L2
open PySem PySem.Spec PyProof.Rows
def FunB (K:PySem.W.Frag) (x qual:Str) (st:Stmt) (f:Addr) (ps:List Str):Prop:=∃ fd, Fun K x qual st f fd ∧ Binds K fd ps []
def FnP (P:Program) (w:World) (K:PySem.W.Frag) (mg:Str -> Option Value) (base:Heap) (k:Nat) (f:Addr) (ps:List Str) (sp:Sp):Prop:=∃ fd, FnOk P w K mg base CX0 k f fd ps sp ∧ Binds K fd ps [] ∧ PySem.W.keepIn K (.ref f) = true
section
variable {P:Program} {w:World} {K:PySem.W.Frag} {mg:Str -> Option Value} {base:Heap}
theorem FunB.ok {x qual:Str} {st:Stmt} {f:Addr} {N ps:List Str} {k:Nat} {sp:Sp} (F:FunB K x qual st f ps) (S:FnScope N ps (defScope st)) (len:∀ vs H Q E, sp vs H Q E -> vs.length = ps.length)
  (hbody:∀ (cdv:Value) (A:Around) (outer:List Env) (s:Shared) (H:Hp) (vs:List V) (Q:VK) (E:XK), Room k (A.deeper (envOfC qual (defScope st) s.heap.objs.size f cdv)) -> sp vs H Q E ->
    ∃ t, PSs (cxOf CX0 P w K mg base N qual (defScope st) f cdv A outer s H E).nox (defBody st) t ∧ t { nx:=fun _ H'=>Q .non H', rt:=Q } (start N vs) H):FnP P w K mg base (k + 1) f ps sp:=by
 obtain ⟨fd, F, b⟩:=F
 exact ⟨fd, F.ok S len hbody, b, F.kp⟩
theorem FnP.mono {j k:Nat} {f:Addr} {ps:List Str} {sp:Sp} (F:FnP P w K mg base j f ps sp) (h:j ≤ k):FnP P w K mg base k f ps sp:=by
 obtain ⟨fd, F, b, kp⟩:=F
 exact ⟨fd, F.mono h, b, kp⟩
theorem FnP.imp {k:Nat} {f:Addr} {ps:List Str} {sp sp':Sp} (F:FnP P w K mg base k f ps sp) (h:∀ vs H Q E, sp' vs H Q E -> sp vs H Q E):FnP P w K mg base k f ps sp':=by
 obtain ⟨fd, F, b, kp⟩:=F
 exact ⟨fd, F.imp h, b, kp⟩
theorem funB_mk {x qual:Str} {st:Stmt} {f:Addr} {ps:List Str} {oc:Value} {od an:Option Addr} {osl:Array (Option Value)} {kV doc pm cdv ct:Value} (l:K.lookup f = some ⟨oc, od, .func (PySem.W.fnOf x qual (defArgs st) (defBody st) (defScope st) .none kV doc pm an cdv ct), osl⟩)
  (c:PySem.W.codeIn K cdv qual = true) (k:PySem.W.keepIn K (.ref f) = true)
  (h:∀ (kV doc pm:Value) (an:Option Addr) (cdv ct:Value) (us:List Value), us.length = ps.length -> bindArgs (PySem.W.fnOf x qual (defArgs st) (defBody st) (defScope st) .none kV doc pm an cdv ct) ⟨us, []⟩ = pure (ps.zip us)):FunB K x qual st f ps:=
 have F:=fun_mk (st:=st) l c k
 ⟨_, F, F.binds h⟩
end
section
variable {X:Cx} {k:Nat} {f C:Addr} {ps:List Str} {sp:Sp} {x m:Str} {p pos apos:Pos} {e o:Expr} {es:List Expr} {ta:TE} {t:TA}
theorem pe_callP (F:FnP X.prog X.w X.K X.mg X.base k f ps sp) (hr:Room k X.A) (hm:X.mg x = some (.ref f)) (ha:PA X (e :: es) t) (hg:Gl X x:=by rfl) (hdb:(x == ("__debug__":Str)) = false:=by decide)
  (he:starEach (e :: es) X.env = (false, eval e X.env) :: starEach es X.env:=by rfl) (hpl:(backTo pos (starEach es X.env)).any (·.1) = false:=by rfl):PE X (.Call (.Name x p) (e :: es) [] pos) (tCall sp [] E0 t):=by
 obtain ⟨fd, F, hb, hk⟩:=F
 exact pe_call F hr hg hm hk hb .nil pass0 ha hdb he hpl
theorem pe_methP {pl:Sem Bool} (he:PE X o ta) (c:Cls X.K C) (hm:Meth X.K C m f) (F:FnP X.prog X.w X.K X.mg X.base k f ps sp) (hr:Room k X.A) (ha:PA X (e :: es) t)
  (ht:eval (.Call (.Attribute o m apos) (e :: es) [] pos) X.env = (do
    let ov ← eval o X.env
    standAt apos.atName
    let (f, first) ← holding [ov] (getMethod ov m pl)
    callWith pos f first (backTo pos (starEach (e :: es) X.env)) (backToKw pos (keywordEach [] X.env))):=by rfl)
  (hst:starEach (e :: es) X.env = (false, eval e X.env) :: starEach es X.env:=by rfl) (hpl:(backTo pos (starEach es X.env)).any (·.1) = false:=by rfl):PE X (.Call (.Attribute o m apos) (e :: es) [] pos) (tMeth C m sp [] E0 ta t):=by
 obtain ⟨fd, F, hb, hk⟩:=F
 exact pe_meth (pl:=pl) he c hm F hr hb .nil pass0 ha hst hpl ht
theorem pe_methP0 {pl:Sem Bool} (he:PE X o ta) (c:Cls X.K C) (hm:Meth X.K C m f) (F:FnP X.prog X.w X.K X.mg X.base k f ps sp) (hr:Room k X.A)
  (ht:eval (.Call (.Attribute o m apos) [] [] pos) X.env = (do
    let ov ← eval o X.env
    standAt apos.atName
    let (f, first) ← holding [ov] (getMethod ov m pl)
    callWith pos f first (backTo pos (starEach [] X.env)) (backToKw pos (keywordEach [] X.env))):=by rfl):PE X (.Call (.Attribute o m apos) [] [] pos) (tMeth C m sp [] E0 ta tNil):=by
 obtain ⟨fd, F, hb, hk⟩:=F
 exact pe_meth0 (pl:=pl) he c hm F hr hb .nil pass0 ht
end
def LcW (n:Nat) (Pv:Nat -> List V -> St -> Hp -> Prop):Nat -> Nat -> List V -> St -> Hp -> Prop:=fun i m ys σ H=>m = n - i ∧ i ≤ n ∧ ys.length ≤ i ∧ Pv i ys σ H
theorem lcYes {n i:Nat} {ys:List V} {y:V} {Pv:Nat -> List V -> St -> Hp -> Prop} {σ:St} {H:Hp} (hi:i < n) (hl:ys.length ≤ i) (hn:n ≤ sizeLine) (p:Pv (i + 1) (ys ++ [y]) σ H):ys.length < sizeLine ∧ ∃ m', m' < n - i ∧ LcW n Pv (i + 1) m' (ys ++ [y]) σ H:=
 ⟨by omega, n - (i + 1), by omega, rfl, hi, by rw [List.length_append, List.length_singleton]; omega, p⟩
theorem lcNo {n i:Nat} {ys:List V} {Pv:Nat -> List V -> St -> Hp -> Prop} {σ:St} {H:Hp} (hi:i < n) (hl:ys.length ≤ i) (p:Pv (i + 1) ys σ H):∃ m', m' < n - i ∧ LcW n Pv (i + 1) m' ys σ H:=
 ⟨n - (i + 1), by omega, rfl, hi, by omega, p⟩
theorem lc_go {J:It} {cap:List (Option Nat)} {g:TG} {tc:TT} {te:TE} {Q:VK} {σ:St} {H:Hp} (n:Nat) (Pv:Nat -> List V -> St -> Hp -> Prop) (h0:Pv 0 [] (capS cap σ) H) (hn:n ≤ sizeLine)
  (hgo:∀ i ys σ H, i < n -> Pv i ys σ H -> J.go i H) (hstop:∀ ys σ H, Pv n ys σ H -> J.stop n H)
  (hs:∀ i ys σ H x H2, i < n -> ys.length ≤ i -> Pv i ys σ H -> J.yld i H x H2 -> g x σ H2 fun σ3 H3=>tc σ3 H3 fun b H4=>if b = true then te σ3 H4 fun y H5=>ys.length < sizeLine ∧ ∃ m', m' < n - i ∧ LcW n Pv (i + 1) m' (ys ++ [y]) σ3 H5 else ∃ m', m' < n - i ∧ LcW n Pv (i + 1) m' ys σ3 H4)
  (hd:∀ ys σ H, Pv n ys σ H -> ∀ p, H p = none -> Q (.ref p) (upd H p (.lst ys))):LcG cap g tc te σ Q J H:=by
 refine ⟨LcW n Pv, ⟨n, by simp, Nat.zero_le _, Nat.le_refl _, h0⟩, ?_⟩
 rintro i m ys σ' H' ⟨rfl, hi, hl, p⟩
 refine ⟨by omega, ?_⟩
 by_cases hlt:i < n
 ·exact .inr ⟨hgo i ys σ' H' hlt p, fun x H2 y=>hs i ys σ' H' x H2 hlt hl p y⟩
 ·have e:i = n:=by omega
  subst e
  exact .inl ⟨hstop ys σ' H' p, hd ys σ' H' p⟩
theorem for_go {J:It} {g:TG} {tb:TS} {D:Ends} {σ:St} {H:Hp} (n:Nat) (Pv:Nat -> St -> Hp -> Prop) (h0:Pv 0 σ H) (hgo:∀ i σ H, i < n -> Pv i σ H -> J.go i H) (hstop:∀ σ H, Pv n σ H -> J.stop n H)
  (hs:∀ i σ H x H', i < n -> Pv i σ H -> J.yld i H x H' -> g x σ H' fun σ2 H2=>tb { D with nx:=Pv (i + 1), ct:=Pv (i + 1), bk:=D.nx } σ2 H2) (hd:∀ σ H, Pv n σ H -> D.nx σ H) :
  ∃ W:Nat -> Nat -> St -> Hp -> Prop, (∃ m, W 0 m σ H) ∧ ∀ i m σ H, W i m σ H ->
   (J.stop i H ∧ D.nx σ H) ∨ (J.go i H ∧ ∃ N:St -> Hp -> Prop, (∀ σ' H', N σ' H' -> ∃ m', m' < m ∧ W (i + 1) m' σ' H') ∧ ∀ x H', J.yld i H x H' -> g x σ H' fun σ2 H2=>tb { D with nx:=N, ct:=N, bk:=D.nx } σ2 H2):=by
 refine ⟨fun i m σ H=>m = n - i ∧ i ≤ n ∧ Pv i σ H, ⟨n, by simp, Nat.zero_le _, h0⟩, ?_⟩
 rintro i m σ H ⟨rfl, hi, p⟩
 by_cases hlt:i < n
 ·exact .inr ⟨hgo i σ H hlt p, Pv (i + 1), fun σ' H' p'=>⟨n - (i + 1), by omega, rfl, hlt, p'⟩, fun x H' y=>hs i σ H x H' hlt p y⟩
 ·have e:i = n:=by omega
  subst e
  exact .inl ⟨hstop σ H p, hd σ H p⟩
theorem Same.upd {H:Hp} {l:Addr} {o:HO} (h:H l = none):Same H (upd H l o):=fun b u e=>by rw [upd_ne (ne_of_none e h)]; exact e
theorem OpR.letter {X:Cx} {f:Value -> Value -> Sem Value} {C:Int -> Int -> Prop} {g:Int -> Int -> Int} (h:OpR X f (rI C fun i j=>.int (g i j))):OpR X f (fun x y H Q=>∃ i j, x = .int i ∧ y = .int j ∧ C i j ∧ ∀ z, z = g i j -> Q (.int z) H):=by
 intro pins s σ H x y v u Q I rx ry q
 obtain ⟨i, j, e1, e2, hc, q⟩:=q
 exact h pins s σ H x y v u Q I rx ry ⟨i, j, e1, e2, hc, q _ rfl⟩
theorem OpR.letter0 {X:Cx} {f:Value -> Value -> Sem Value} {g:Int -> Int -> Int} (h:OpR X f (rI0 fun i j=>.int (g i j))):OpR X f (fun x y H Q=>∃ i j, x = .int i ∧ y = .int j ∧ ∀ z, z = g i j -> Q (.int z) H):=by
 intro pins s σ H x y v u Q I rx ry q
 obtain ⟨i, j, e1, e2, q⟩:=q
 exact h pins s σ H x y v u Q I rx ry ⟨i, j, e1, e2, q _ rfl⟩
end L2

namespace L2
open PySem PySem.Spec PyProof.Rows
structure CMeth (K:PySem.W.Frag) (C:Addr) (m:Str) (f:Addr):Prop where
 sp:PySem.W.specialIn K (.ref C) "__getattribute__" = some (some (.builtin "type.__getattribute__"))
 rd:PySem.W.readsIn K C (.type "type") = true
 fc:PySem.W.findCls K (.ref C) (.type "type") m = some (PySem.W.CFound.val (.ref f))
section
variable {X:Cx} {k:Nat} {f C:Addr} {ps:List Str} {sp:Sp} {x m:Str} {p pos apos:Pos} {e:Expr} {es:List Expr} {t:TA}
theorem pe_clsP {pl:Sem Bool} (hm:X.mg x = some (.ref C)) (c:CMeth X.K C m f) (F:FnP X.prog X.w X.K X.mg X.base k f ps sp) (hr:Room k X.A) (ha:PA X (e :: es) t) (hg:Gl X x:=by rfl) (hdb:(x == ("__debug__":Str)) = false:=by decide)
  (ht:eval (.Call (.Attribute (.Name x p) m apos) (e :: es) [] pos) X.env = (do
    let ov ← eval (.Name x p) X.env
    standAt apos.atName
    let (f, first) ← holding [ov] (getMethod ov m pl)
    callWith pos f first (backTo pos (starEach (e :: es) X.env)) (backToKw pos (keywordEach [] X.env))):=by rfl)
  (hst:starEach (e :: es) X.env = (false, eval e X.env) :: starEach es X.env:=by rfl) (hpl:(backTo pos (starEach es X.env)).any (·.1) = false:=by rfl):PE X (.Call (.Attribute (.Name x p) m apos) (e :: es) [] pos) (tCall sp [] E0 t):=by
 obtain ⟨fd, F, hb, hk⟩:=F
 intro pins s σ H Q I h
 refine PySem.W.methodCall_KW (pl:=pl) (ld_glob I hg hm ?_ hdb) ht
 refine PySem.W.method_cls I.kIn c.sp (PySem.W.cls_value I.kIn c.rd c.fc rfl ?_)
 refine PySem.W.callWith_K (first:=[]) (h₀:=X.base) I.ok.mod.kin hk (thn (ha pos pins _ σ H _ (I.tok _) h) fun us s2 ⟨vs, H2, I2, r, q2⟩=>⟨I2.kIn, ?_⟩) hst hpl
 exact run_fn F hr hb .nil pass0 I2 r q2
def tJoin (t:TS):TS:=fun D σ H=>∃ J:St -> Hp -> Prop, t { D with nx:=J } σ H ∧ ∀ σ' H', J σ' H' -> D.nx σ' H'
theorem ps_join {st:Stmt} {t:TS} (h:PS X st t):PS X st (tJoin t):=by
 intro pins s σ H D I hq
 obtain ⟨J, q, j⟩:=hq
 refine thn (h pins s σ H _ I q) fun f s1 h1=>?_
 cases f with
 | next=>obtain ⟨σ1, H1, I1, q⟩:=h1; exact ⟨σ1, H1, I1, j _ _ q⟩
 | brk=>exact h1
 | cont=>exact h1
 | ret u=>exact h1
end
end L2

namespace L2
open PySem PySem.Spec PyProof.Rows
def metS (val:Nat -> Str) (i:Nat):Str -> Bool:=fun k=>(List.range i).any fun j=>decide (val j = k)
theorem metS_succ (val:Nat -> Str) (i:Nat):(fun k=>metS val i k || decide (k = val i)) = metS val (i + 1):=by
 funext k
 unfold metS
 rw [List.range_succ, List.any_append]
 congr 1
 show _ = (decide (val i = k) || false)
 rw [Bool.or_false]
 by_cases h:k = val i
 ·rw [decide_eq_true h, decide_eq_true h.symm]
 ·rw [decide_eq_false h, decide_eq_false (fun z=>h z.symm)]
theorem metS_new {val:Nat -> Str} {i:Nat} (h:∀ j, j < i -> val j ≠ val i):metS val i (val i) = false:=by
 unfold metS
 rw [List.any_eq_false]
 intro j hj
 simp only [decide_eq_true_eq]
 exact h j (List.mem_range.mp hj)
theorem set_loop {prog:Program} {w:World} {A:Around} {R:Result -> Shared -> Prop} {I:Addr} {fp wr:List Addr} {G:Array GenState -> Array GenState -> Prop} {n:Nat} {P:Nat -> Value -> Prop} {St:Nat -> Shared -> Prop}
  (W:WalksS prog w A.in1 I fp wr G n P St) (S:Addr) (hSf:¬ S ∈ fp) (val:Nat -> Str) (hval:∀ (i:Nat) (v:Value), P i v -> ∃ t:Tok, v = Value.str (val i) t) (hnd:∀ i j, i < j -> j < n -> val i ≠ val j) (hb:n + 1 < scanBound) :
  ∀ (k i:Nat) (s:Shared), n - i = k -> i ≤ n -> St i s -> s.heap.SetOf (strKind prog w) S (metS val i) i ->
   (∀ s', Moved (S :: wr) G s s' -> s'.heap.SetOf (strKind prog w) S (metS val n) n -> R (.ok (.ret .none)) s') ->
   codeAny (model prog w) A (.builtin "set.update.loop" { pos:=[.ref S, .ref I] }) R s:=by
 have hSw:¬ S ∈ wr:=fun h=>hSf (W.sub S h)
 have hsub:∀ b, b ∈ wr -> b ∈ S :: wr:=fun b hb=>List.mem_cons_of_mem S hb
 intro k
 induction k with
 | zero=>
   intro i s hk hi hst hS hR
   have hin:i = n:=by omega
   subst hin
   refine codeAny_builtin PyProof.Rows.F.entry_set_update_loop ?_
   rw [Around.under_plainId PyProof.Rows.F.plain_set_update_loop]
   refine wpAny_bind (W.done s _ _ hst fun s' hm=>?_)
   refine wpAny_pure (hR s' (hm.mono hsub) ?_)
   obtain ⟨o, es, ep, t, ho, rest⟩:=hS
   exact ⟨o, es, ep, t, hm.heap S o hSw ho, rest⟩
 | succ k ih=>
   intro i s hk hi hst hS hR
   have hlt:i < n:=by omega
   refine codeAny_builtin PyProof.Rows.F.entry_set_update_loop ?_
   rw [Around.under_plainId PyProof.Rows.F.plain_set_update_loop]
   refine wpAny_bind (W.item i s _ _ hlt hst fun v s' hP hst' hm=>?_)
   obtain ⟨t, rfl⟩:=hval i v hP
   have hS':s'.heap.SetOf (strKind prog w) S (metS val i) i:=by
    obtain ⟨o, es, ep, t, ho, rest⟩:=hS
    exact ⟨o, es, ep, t, hm.heap S o hSw ho, rest⟩
   have his:(strKind prog w).is (val i) (Value.str (val i) t) = true:=by
    show Value.isStrOf (val i) (Value.str (val i) t) = true
    simp [Value.isStrOf]
   refine wpAny_bind (wpAny_holding ?_)
   refine wpAny_holding (wpAny_bind ((strKind prog w).pyHash his ?_))
   refine wpAny_setAddHashed_of his rfl hS' (by omega) fun h' hsb hS2=>?_
   rw [metS_succ, metS_new (fun j hj=>hnd j i hj hlt), if_neg Bool.false_ne_true] at hS2
   refine wpAny_pure ⟨plainId_quiet PyProof.Rows.F.plain_set_update_loop _, ih (i + 1) _ (by omega) hlt (W.frame (i + 1) s' h' _ hst' (Nat.le_succ s'.toks) fun b hb o e=>?_) hS2 fun s'' hm'' hS''=>hR s'' (Moved.trans W.gtrans (Moved.then_heap (Moved.mono hm hsub) (Nat.le_succ s'.toks) fun b o hb e=>?_) hm'') hS''⟩
   ·rw [hsb.right b fun h=>hSf (by rw [← h]; exact hb)]
    exact e
   ·rw [hsb.right b fun h=>hb (by rw [h]; exact List.mem_cons_self)]
    exact e
theorem set_init {prog:Program} {w:World} {A:Around} {s:Shared} {S l:Addr} {led:Bool} {items:Array Value} {R:Result -> Shared -> Prop} (hh:A.handled = none)
  (hget:s.heap.get? S = some { cls:=.type "set", data:=.set #[] 0 (SetTable.fresh 0 0 led) }) (hl:s.heap.IsList l items) (hne:l ≠ S) (val:Nat -> Str)
  (hval:∀ (i:Nat) (v:Value), items[i]? = some v -> ∃ t:Tok, v = Value.str (val i) t) (hnd:∀ i j, i < j -> j < items.size -> val i ≠ val j) (hb:items.size + 1 < scanBound)
  (h:∀ (h':Heap) (tk:Nat), h'.SetOf (PySem.strKind prog w) S (metS val items.size) items.size -> (∀ (b:Nat) (o:Obj), b ≠ S -> s.heap.get? b = some o -> h'.get? b = some o) -> R (.ok (.ret .none)) { s with heap:=h', toks:=tk }) :
  codeAny (model prog w) A (.call (.builtin "set.__init__") { pos:=[.ref S, .ref l] }) R s:=by
 have hty:s.TypeIs (.ref S) "set":=⟨_, hget, rfl⟩
 have htl:s.TypeIs (.ref l) "list":=by
  obtain ⟨o, ho, hc, _⟩:=hl
  exact ⟨o, ho, hc⟩
 refine codeAny_call_builtin F.called_set.init.plain F.entry_set_init (check_set_init_1 hty ?_)
 refine wpAny_bind (wpAny_ite_true rfl (wpAny_pure ?_))
 refine wpAny_bind (wpAny_bind (wpAny_bind (wpAny_typeOf hty (wpAny_ite_false rfl (wpAny_pure (wpAny_pure ?_))))))
 refine wpAny_bind ?_
 unfold checkCount
 refine wpAny_ite_false rfl (wpAny_ite_false rfl (wpAny_ite_false rfl (wpAny_pure ?_)))
 refine wpAny_bind (wpAny_pure ?_)
 refine wpAny_bind (wpAny_bind (wpAny_bind (wpAny_load' hget (wpAny_ite_false rfl (wpAny_pure (wpAny_pure ?_))))))
 refine wpAny_ite_false rfl ?_
 refine wpAny_bind ?_
 refine wpAny_bind ?_
 refine wpAny_bind (wpAny_isInstance htl F.sub_list_set ?_)
 show wpAny (model prog w) A.in1 (isInstance (.ref l) (.type "frozenset")) _ _ _
 refine wpAny_isInstance htl F.sub_list_frozenset ?_
 refine wpAny_ite_false rfl ?_
 refine wpAny_bind (wpAny_typeOf htl (wpAny_ite_false rfl ?_))
 refine wpAny_bind (wpAny_pyIter_list hl ?_)
 have hlt:S < s.heap.objs.size:=Heap.lt_size hget
 have hll:l < s.heap.objs.size:=by
  obtain ⟨o, ho, _⟩:=hl
  exact Heap.lt_size ho
 refine wpAny_bind (wpAny_runValue ?_)
 have hS0:(s.heap.push { cls:=.type "list_iterator", data:=.fields #[.ref l, .int 0 0] }).SetOf (PySem.strKind prog w) S (metS val 0) 0:=by
  have:=(PyProof.Rows.setObjOf_fresh (knd:=PySem.strKind prog w) led).setOf (h:=s.heap.push { cls:=.type "list_iterator", data:=.fields #[.ref l, .int 0 0] }) (a:=S) (Heap.get?_push_of_some _ hget)
  exact this (by decide)
 refine set_loop (Walks.list (by exact hh) s.heap.objs.size l (Nat.ne_of_lt hll) items).toS S (fun z=>?_) val hval hnd hb items.size 0 _ (Nat.sub_zero _) (Nat.zero_le _) ⟨⟨_, Heap.get?_push_size s.heap (show Obj.isFreed { cls:=.type "list_iterator", data:=.fields #[.ref l, .int 0 0] } = false from rfl), rfl, rfl⟩, hl.push _⟩ hS0 fun s' hm hS'=>?_
 ·rcases List.mem_cons.mp z with z | z
  ·exact absurd z (Nat.ne_of_lt hlt)
  ·exact hne (List.mem_singleton.mp z).symm
 ·refine wpAny_pure (wpAny_pure ?_)
  obtain ⟨h2, g2, d2, t2, o2⟩:=s'
  have e1:g2 = s.gens:=hm.gens
  have e2:d2 = s.drawn:=hm.drawn
  have e3:o2 = s.os:=hm.os
  subst e1 e2 e3
  refine h h2 t2 hS' fun b o hb ho=>?_
  refine hm.heap b o (fun z=>?_) (Heap.get?_push_of_some _ ho)
  rcases List.mem_cons.mp z with z | z
  ·exact hb z
  ·exact Nat.ne_of_lt (Heap.lt_size ho) (List.mem_singleton.mp z)
theorem set_call {prog:Program} {w:World} {A:Around} {E:Value -> Shared -> Prop} {s:Shared} {l:Addr} {items:Array Value} {Q:Value -> Shared -> Prop} (hh:A.handled = none) (hl:s.heap.IsList l items) (val:Nat -> Str)
  (hval:∀ (i:Nat) (v:Value), items[i]? = some v -> ∃ t:Tok, v = Value.str (val i) t) (hnd:∀ i j, i < j -> j < items.size -> val i ≠ val j) (hb:items.size + 1 < scanBound)
  (h:∀ (h':Heap) (tk:Nat), h'.SetOf (PySem.strKind prog w) s.heap.objs.size (metS val items.size) items.size -> (∀ (b:Nat) (o:Obj), s.heap.get? b = some o -> h'.get? b = some o) -> Q (.ref s.heap.objs.size) { s with heap:=h', toks:=tk }) :
  wpAny (model prog w) A (call (.type "set") [.ref l]) Q E s:=by
 obtain ⟨c, tl, hmro⟩:=F.called_set.mro
 have hmade:=F.called_set.made
 refine wpAny_call (codeAny_of_tree (wpAny_pure ⟨Code.quiet_builtin { pos:=[.type "set", .ref l] } (by decide +kernel), codeAny_builtin F.entry_type_call ?_⟩))
 rw [Around.under_plain (weight_type_call_type "set" [.ref l] []) rfl]
 unfold Builtin.«type.__call__»
 dsimp only
 refine wpAny_ite_false F.called_set.notType ?_
 refine wpAny_ite_false F.called_set.canCreate ?_
 refine wpAny_bind (wpAny_of_eq (F.typeCall_set_1 (.ref l)) ?_)
 refine wpAny_bind (wpAny_of_eq hmro (wpAny_ite_false rfl ?_))
 refine wpAny_bind (wpAny_of_eq hmade ?_)
 refine wpAny_bind (wpAny_pure ?_)
 refine wpAny_bind (wpAny_holding (wpAny_call (codeAny_mono (code_set_new_1 (E:=E) (Q₁:=fun obj s₁=>∃ led, obj = .ref s.heap.objs.size ∧ s₁ = { s with heap:=s.heap.push { cls:=.type "set", data:=.set #[] 0 (SetTable.fresh 0 0 led) } }) (.ref l) fun led=>⟨led, rfl, rfl⟩) fun r s₁ hr=>?_)))
 have hc:∃ led, r = .ok (.ret (.ref s.heap.objs.size)) ∧ s₁ = { s with heap:=s.heap.push { cls:=.type "set", data:=.set #[] 0 (SetTable.fresh 0 0 led) } } ∨ ∃ e, r = .error e ∧ E e s₁:=by
  match r, hr with
  | .ok (.ret v), hr=>
    obtain ⟨led, rfl, e⟩:=(show ∃ led, v = Value.ref s.heap.objs.size ∧ s₁ = { s with heap:=s.heap.push { cls:=.type "set", data:=.set #[] 0 (SetTable.fresh 0 0 led) } } from hr)
    exact ⟨led, .inl ⟨rfl, e⟩⟩
  | .error e, hr=>exact ⟨true, .inr ⟨e, rfl, hr⟩⟩
 obtain ⟨led, ⟨rfl, rfl⟩ | ⟨e, rfl, he⟩⟩:=hc
 ·have hget:(s.heap.push { cls:=.type "set", data:=.set #[] 0 (SetTable.fresh 0 0 led) }).get? s.heap.objs.size = some { cls:=.type "set", data:=.set #[] 0 (SetTable.fresh 0 0 led) }:=Heap.get?_push_size s.heap (show Obj.isFreed { cls:=.type "set", data:=.set #[] 0 (SetTable.fresh 0 0 led) } = false from rfl)
  have hty:({ s with heap:=s.heap.push { cls:=.type "set", data:=.set #[] 0 (SetTable.fresh 0 0 led) } }:Shared).TypeIs (.ref s.heap.objs.size) "set":=⟨_, hget, rfl⟩
  have hl2:(s.heap.push { cls:=.type "set", data:=.set #[] 0 (SetTable.fresh 0 0 led) }).IsList l items:=hl.push _
  have hll:l < s.heap.objs.size:=by
   obtain ⟨o, ho, _⟩:=hl
   exact Heap.lt_size ho
  show wpAny (model prog w) A.in1 _ _ _ _
  refine wpAny_bind (wpAny_isInstance hty F.called_set.sub (wpAny_ite_false rfl ?_))
  refine wpAny_bind (wpAny_holding ?_)
  refine wpAny_bind (wpAny_specialOf hty F.called_set.init.lookup ?_)
  refine wpAny_holding (wpAny_bind (wpAny_of_eq (F.called_set.init.bind _) ?_))
  refine wpAny_bind (wpAny_call ?_)
  refine set_init (A:=A.in1) hh hget hl2 (Nat.ne_of_lt hll) val hval hnd hb fun h' tk hS kp=>?_
  refine wpAny_pure (wpAny_ite_false rfl (wpAny_pure ?_))
  exact h h' tk hS fun b o ho=>kp b o (Nat.ne_of_lt (Heap.lt_size ho)) (Heap.get?_push_of_some _ ho)
 ·exact he
def setN (P:Program) (w:World) (a:Addr) (n:Nat):HO:=.ext fun h=>∃ S:Str -> Bool, h.SetOf (PySem.strKind P w) a S n
section
variable {X:Cx}
theorem call_setS (hc:X.calm = true):CallR X (.type "set") (fun vs H Q=>∃ (p:Addr) (ys:List Str), vs = [.ref p] ∧ SqL X.K H p (ys.map V.str) ∧ ys.Nodup ∧ ys.length ≤ 1000 ∧ ∀ l, H l = none -> Q (.ref l) (upd H l (setN X.prog X.w l ys.length))):=by
 intro pins s σ H xs us Q I r h
 obtain ⟨p, ys, rfl, hq, nd, few, q⟩:=h
 obtain ⟨u, rfl, rx⟩:=vals1 r
 cases rx
 obtain ⟨its, r', pl, hz⟩:=I.list hq
 have hlen:ys.length = its.length:=by have:=r'.length; rw [List.length_map] at this; exact this
 have hsz:its.toArray.size = ys.length:=by rw [List.size_toArray, hlen]
 refine set_call (I.ok.hd hc) pl.isList (fun i=>ys.getD i "") (fun i v e=>?_) (fun i j hij hj e=>?_) ?_ fun h' tk hS kp=>?_
 ·have e:its[i]? = some v:=by rw [← List.getElem?_toArray]; exact e
  have hi:i < ys.length:=by rw [hlen]; exact (List.getElem?_eq_some_iff.mp e).1
  have hy:(ys.map V.str)[i]? = some (V.str ys[i]):=by rw [List.getElem?_map, List.getElem?_eq_getElem hi]; rfl
  obtain ⟨u, hu, rv⟩:=r'.get hy
  rw [e] at hu
  cases hu
  obtain ⟨t, rfl⟩:=rv
  exact ⟨t, by rw [List.getD_eq_getElem?_getD, List.getElem?_eq_getElem hi]; rfl⟩
 ·rw [hsz] at hj
  have hi:i < ys.length:=Nat.lt_trans hij hj
  rw [List.getD_eq_getElem?_getD, List.getD_eq_getElem?_getD, List.getElem?_eq_getElem hi, List.getElem?_eq_getElem hj] at e
  exact (List.pairwise_iff_getElem.mp nd) i j hi hj hij e
 ·rw [hsz]
  exact Nat.lt_of_le_of_lt (show ys.length + 1 ≤ 1001 by omega) (by decide)
 ·rw [hsz] at hS
  refine ⟨.ref s.heap.objs.size, _, I.laid (o:=setN X.prog X.w s.heap.objs.size ys.length) (t':=tk) kp (Nat.le_refl _) ⟨⟨_, hS⟩, ?_, ?_⟩, rfl, q _ (I.hok.fresh (Nat.le_refl _))⟩
  ·obtain ⟨o, _, _, _, ho, _⟩:=hS
   exact ⟨o, ho⟩
  ·rintro h1 h2 ⟨S, o, es, ep, t, ho, rest⟩ k
   exact ⟨S, o, es, ep, t, k o ho, rest⟩
theorem call_lenSt:CallR X (.builtin "len") (fun vs H Q=>∃ p n, vs = [.ref p] ∧ H p = some (setN X.prog X.w p n) ∧ n ≤ 1000 ∧ Q (.int n) H):=by
 intro pins s σ H xs us Q I r h
 obtain ⟨p, n, rfl, hp, few, q⟩:=h
 obtain ⟨u, rfl, rx⟩:=vals1 r
 cases rx
 obtain ⟨⟨S, o, es, ep, t, ho, hex, hd, _, _, _, hfit, hn⟩, _, _⟩:=(show ObjOk X.prog X.w H s.heap p (setN X.prog X.w p n) from I.hok p _ hp)
 exact call_len_set ho hex hd hfit (by omega) ⟨.int n, H, I.tok _, ⟨s.toks + 1, by rw [hn]⟩, q⟩
theorem call_setSC {P:Program} {w:World} (hp:X.prog = P) (hw:X.w = w) (hc:X.calm = true):CallR X (.type "set") (fun vs H Q=>∃ (p:Addr) (ys:List Str), vs = [.ref p] ∧ SqL X.K H p (ys.map V.str) ∧ ys.Nodup ∧ ys.length ≤ 1000 ∧ ∀ l, H l = none -> Q (.ref l) (upd H l (setN P w l ys.length))):=by
 subst hp hw
 exact call_setS hc
theorem call_lenStC {P:Program} {w:World} (hp:X.prog = P) (hw:X.w = w):CallR X (.builtin "len") (fun vs H Q=>∃ p n, vs = [.ref p] ∧ H p = some (setN P w p n) ∧ n ≤ 1000 ∧ Q (.int n) H):=by
 subst hp hw
 exact call_lenSt
end
end L2

namespace L2
open PySem PySem.Spec PyProof.Rows
section
variable {X:Cx} {pins:List (Addr × Obj)} {σ:St} {H:Hp} {s:Shared}
theorem mt_index:MtR X "list.index" (fun x vs H Q=>∃ (l:Addr) (xs:List V) (y:V) (j:Nat), x = .ref l ∧ vs = [y] ∧ H l = some (.lst xs) ∧ flatV y = true ∧ xs.all flatV = true ∧ j < xs.length ∧ (∀ z, xs[j]? = some z -> eqV z y = true) ∧ (∀ m z, m < j -> xs[m]? = some z -> eqV z y = false) ∧ Q (.int j) H):=by
 intro pins s σ H x vs v us Q I rx rv h
 obtain ⟨l, xs, y, j, rfl, rfl, hH, fy, fs, hj, h1, h2, q⟩:=h
 cases rx
 obtain ⟨u, rfl, ru⟩:=vals1 rv
 obtain ⟨z, its, n, r, hl, e⟩:=I.lstM hH
 have at_:∀ (m:Nat) (hm:m < its.toArray.size), ∃ x, xs[m]? = some x ∧ RelV x its.toArray[m]:=fun m hm=>by
  have hm':m < its.length:=by simpa using hm
  have hx:m < xs.length:=by omega
  obtain ⟨w, hw, rw'⟩:=r.get (List.getElem?_eq_getElem hx)
  rw [List.getElem?_eq_getElem hm'] at hw
  cases hw
  exact ⟨xs[m], List.getElem?_eq_getElem hx, by simpa using rw'⟩
 have fl:∀ (m:Nat) x, xs[m]? = some x -> flatV x = true:=fun m x hx=>List.all_eq_true.mp fs x (List.mem_of_getElem? hx)
 have hjs:j < its.toArray.size:=by simp; omega
 have line:xs.length ≤ sizeLine:=z
 refine call_meets F.slot_list_index ⟨_, e, rfl⟩ F.entry_list_index (F.args_list_index_2 _ _) (SeqAt.list_indexAt l its.toArray n none #[] u (eqU y) j hjs ?_ ?_ ?_) ⟨e, fun w hw=>mem_eqAt ru fy r fs w (by simpa using hw), ?_⟩
 ·have:=line63
  omega
 ·obtain ⟨x, hx, rx⟩:=at_ j hjs
  rw [eqU_of rx (fl j x hx)]
  exact h1 x hx
 ·intro m hm hmj
  obtain ⟨x, hx, rx⟩:=at_ m hm
  rw [eqU_of rx (fl m x hx)]
  exact h2 m x hmj hx
 ·exact ⟨.int j, H, I.tok _, ⟨_, rfl⟩, q⟩
end
end L2

namespace L2
open PySem PySem.Spec PyProof.Rows
def Itz (K:PySem.W.Frag) (a b:Addr):It:=
 ⟨fun i H=>∃ xs x ys y, SqL K H a xs ∧ xs[i]? = some x ∧ SqL K H b ys ∧ ys[i]? = some y,
  fun i H v H'=>∃ T x y, H T = none ∧ v = .ref T ∧ H' = upd H T (.tup [x, y]) ∧ (∀ xs, SqL K H a xs -> xs[i]? = some x) ∧ ∀ ys, SqL K H b ys -> ys[i]? = some y,
  fun i H=>∃ xs ys, SqL K H a xs ∧ SqL K H b ys ∧ (xs.length ≤ i ∨ ys.length ≤ i)⟩
structure ZD (z TI TO i1 i2:Addr):Prop where
 TIz:TI ≠ z
 TOz:TO ≠ z
 i1z:i1 ≠ z
 i2z:i2 ≠ z
 TITO:TI ≠ TO
 TIi1:TI ≠ i1
 TIi2:TI ≠ i2
 TOi1:TO ≠ i1
 TOi2:TO ≠ i2
 i12:i1 ≠ i2
theorem cls_ne {h:Heap} {a b:Addr} {o:Obj} {xs:Array Value} (ha:h.IsList a xs) (hb:h.get? b = some o) (hc:o.cls ≠ .type "list"):a ≠ b:=fun e=>by
 obtain ⟨o', ho, hl, _⟩:=ha
 rw [e, hb] at ho
 cases ho
 exact hc hl
theorem apart_of {h:Heap} {z TI TO i1 i2 l1 l2:Addr} {f0 a b:Value} {k1 k2:Nat} {xs ys:Array Value} (D:ZD z TI TO i1 i2) (hz:IsZip h z TI TO f0) (hTO:IsPair h TO a b) (h1:h.IsListIter i1 l1 k1) (h2:h.IsListIter i2 l2 k2) (hl1:h.IsList l1 xs) (hl2:h.IsList l2 ys):ZipApart z TI TO i1 i2 l1 l2:=by
 obtain ⟨o1, e1, c1, _⟩:=h1
 obtain ⟨o2, e2, c2, _⟩:=h2
 have n1:o1.cls ≠ .type "list":=by rw [c1]; decide
 have n2:o2.cls ≠ .type "list":=by rw [c2]; decide
 exact ⟨D.TIz, D.TOz, D.i1z, D.i2z, D.TITO, D.TIi1, D.TIi2, D.TOi1, D.TOi2, D.i12, cls_ne hl1 hz (by show Value.type "zip" ≠ _; decide), cls_ne hl1 hTO (by show Value.type "tuple" ≠ _; decide), cls_ne hl1 e1 n1, cls_ne hl1 e2 n2,
  cls_ne hl2 hz (by show Value.type "zip" ≠ _; decide), cls_ne hl2 hTO (by show Value.type "tuple" ≠ _; decide), cls_ne hl2 e1 n1, cls_ne hl2 e2 n2⟩
theorem turn_zip {P:Program} {w:World} {K:PySem.W.Frag} {elts:List Expr} {k1} {tp:Pos} (a b z TI TO i1 i2:Addr) (D:ZD z TI TO i1 i2) :
  Turn P w K (.Tuple elts k1 tp) (Itz K a b) [z, TI, TO, i1, i2] z (fun i h=>IsZip h z TI TO .none ∧ IsPair h TI (.ref i1) (.ref i2) ∧ (∃ x y, IsPair h TO x y) ∧ h.IsListIter i1 a i ∧ h.IsListIter i2 b i) where
 mem:=by simp
 obj:=fun i h st c hc=>by
  obtain ⟨hz, hTI, ⟨x, y, hTO⟩, ⟨o1, e1, _, d1⟩, ⟨o2, e2, _, d2⟩⟩:=st
  simp only [List.mem_cons, List.not_mem_nil, or_false] at hc
  rcases hc with q | q | q | q | q
  ·rw [q]; exact ⟨_, hz, fun v z=>by cases z⟩
  ·rw [q]; exact ⟨_, hTI, fun v z=>by cases z⟩
  ·rw [q]; exact ⟨_, hTO, fun v z=>by cases z⟩
  ·rw [q]; exact ⟨o1, e1, fun v z=>by rw [d1] at z; cases z⟩
  ·rw [q]; exact ⟨o2, e2, fun v z=>by rw [d2] at z; cases z⟩
 keep:=fun i h h' st k=>by
  obtain ⟨hz, hTI, ⟨x, y, hTO⟩, h1, h2⟩:=st
  exact ⟨k z (by simp) _ hz, k TI (by simp) _ hTI, ⟨x, y, k TO (by simp) _ hTO⟩, h1.at fun o q=>k i1 (by simp) o q, h2.at fun o q=>k i2 (by simp) o q⟩
 item:=by
  intro X hP hw hK hc i pins s σ H E I hf st hg
  subst hP hw hK
  obtain ⟨xs, x, ys, y, hq, hx, hq', hy⟩:=hg
  obtain ⟨its, rv, p, hzz⟩:=I.list hq
  obtain ⟨its', rv', p', hzz'⟩:=I.list hq'
  obtain ⟨u, hu, ru⟩:=rv.get hx
  obtain ⟨u', hu', ru'⟩:=rv'.get hy
  obtain ⟨hz, hTI, ⟨x0, y0, hTO⟩, h1, h2⟩:=st
  have A:=apart_of D hz hTO h1 h2 p.isList p'.isList
  refine wpAny_pyNext_zip_item A hz hTI hTO h1 h2 p.isList p'.isList (x:=u) (y:=u') (by simpa using hu) (by simpa using hu') fun h' hz' hTO' h1' h2' hT hsz kp=>⟨_, rfl, ?_⟩
  refine wpAny_letOwnedTupleGo_zip hz' fun h3 hz3 sb=>?_
  have hzs:z < s.heap.objs.size:=Heap.lt_size hz
  have hT3:h3.get? s.heap.objs.size = some { cls:=.type "tuple", data:=.seq #[u, u'] }:=(sb.2 _ (Nat.ne_of_gt hzs)).trans hT
  have hfree:H s.heap.objs.size = none:=I.hok.fresh (Nat.le_refl _)
  have I1:Inv X pins σ H { s with heap:=h3 }:=I.turns (fp:=[z, TI, TO, i1, i2]) (t':=s.toks) hf fun c o hb q=>(sb.2 c fun e=>hb (by simp [e])).trans (kp c o (fun e=>hb (by simp [e])) (fun e=>hb (by simp [e])) (fun e=>hb (by simp [e])) (fun e=>hb (by simp [e])) q)
  have I2:Inv X pins σ (upd H s.heap.objs.size (.tup [x, y])) { s with heap:=h3 }:=I1.track (I.fpOk (Nat.le_refl _) hfree) ⟨by show 2 ≤ sizeLine; decide, [u, u'], .cons ru (.cons ru' .nil), _, hT3, rfl, _, rfl⟩
  refine ⟨.ref s.heap.objs.size, _, I2, rfl, ⟨s.heap.objs.size, x, y, hfree, rfl, rfl, fun l hl=>by rw [I.list_inj hl hq]; exact hx, fun l hl=>by rw [I.list_inj hl hq']; exact hy⟩, ⟨hz3, (sb.2 TI D.TIz).trans (kp TI _ D.TIz D.TITO D.TIi1 D.TIi2 hTI), ⟨u, u', (sb.2 TO D.TOz).trans hTO'⟩, h1'.at fun o q=>(sb.2 i1 D.i1z).trans q, h2'.at fun o q=>(sb.2 i2 D.i2z).trans q⟩, fun c hc=>?_⟩
  have hlt:c < s.heap.objs.size:=by
   simp only [List.mem_cons, List.not_mem_nil, or_false] at hc
   obtain ⟨o1, e1, _⟩:=h1
   obtain ⟨o2, e2, _⟩:=h2
   rcases hc with q | q | q | q | q
   ·rw [q]; exact hzs
   ·rw [q]; exact Heap.lt_size hTI
   ·rw [q]; exact Heap.lt_size hTO
   ·rw [q]; exact Heap.lt_size e1
   ·rw [q]; exact Heap.lt_size e2
  rw [upd_ne (Nat.ne_of_lt hlt)]
  exact (hf c hc).1
 done:=by
  intro X hP hw hK hc i pins s σ H E I hf st hg
  subst hP hw hK
  obtain ⟨xs, ys, hq, hq', hx⟩:=hg
  obtain ⟨its, rv, p, hzz⟩:=I.list hq
  obtain ⟨its', rv', p', hzz'⟩:=I.list hq'
  obtain ⟨hz, hTI, ⟨x0, y0, hTO⟩, h1, h2⟩:=st
  have A:=apart_of D hz hTO h1 h2 p.isList p'.isList
  have hl:=rv.length
  have hl':=rv'.length
  refine wpAny_pyNext_zip_end (I.ok.hd hc) A hz hTI hTO h1 h2 p.isList p'.isList (hx.elim (fun e=>.inl (by simp; omega)) fun e=>.inr (by simp; omega)) fun h' kp=>⟨rfl, I.turns (fp:=[z, TI, TO, i1, i2]) (t':=s.toks) hf fun c o hb q=>kp c o (fun e=>hb (by simp [e])) (fun e=>hb (by simp [e])) (fun e=>hb (by simp [e])) (fun e=>hb (by simp [e])) q⟩
 self:=fun _ _ _ _ _ st h=>wpAny_pyIter_zip st.1 h
theorem vals_of_get:∀ {xs:List V} {us:List Value}, xs.length = us.length -> (∀ (k:Nat) (x:V) (u:Value), xs[k]? = some x -> us[k]? = some u -> RelV x u) -> Vals xs us
 | [], [], _, _=>.nil
 | [], _ :: _, h, _=>by simp at h
 | _ :: _, [], h, _=>by simp at h
 | x :: xs, u :: us, h, k=>.cons (k 0 x u rfl rfl) (vals_of_get (Nat.succ.inj h) fun i y v e1 e2=>k (i + 1) y v (by simpa using e1) (by simpa using e2))
section
variable {X:Cx}
def iZip (K:PySem.W.Frag) (ta:TA):TI:=fun σ H R=>ta σ H fun vs H1=>∃ a b, vs = [.ref a, .ref b] ∧ (∃ xs, SqL K H1 a xs) ∧ (∃ ys, SqL K H1 b ys) ∧ R (Itz K a b) H1
theorem pi_zip {a b:Expr} {ta:TA} {p pos tp:Pos} {elts:List Expr} {k1} (hg:Gl X "zip") (hm:X.mg "zip" = none) (ha:PA X [a, b] ta) (hs:starEach [a, b] X.env = [(false, eval a X.env), (false, eval b X.env)]:=by rfl) (hs2:starEach [b] X.env = [(false, eval b X.env)]:=by rfl) :
  PI X (.Tuple elts k1 tp) (.Call (.Name "zip" p) [a, b] [] pos) (iZip X.K ta):=by
 intro pins s σ H R I h
 refine Call_ (ld_blt I hg hm boot_zip (PyProof.Rows.callWith_type1 (thn (ha pos pins s σ H _ I h) fun us s1 ⟨vs, H1, I1, r1, q1⟩=>?_) (by rw [hs, hs2]) (by rw [hs2]; rfl)))
 obtain ⟨l1, l2, e, ⟨xs, hq⟩, ⟨ys, hq'⟩, q⟩:=q1
 subst e
 obtain ⟨u, u', rfl, ru, ru'⟩:=vals2 r1
 cases ru
 cases ru'
 obtain ⟨its, rv, pl, hz⟩:=I1.list hq
 obtain ⟨its', rv', pl', hz'⟩:=I1.list hq'
 refine call_zip_2 pl.isList pl'.isList fun h' hz hTI hTO h1 h2 hsz kp=>?_
 refine wpAny_pyIter_zip hz ?_
 have hfree:∀ c, s1.heap.objs.size ≤ c -> H1 c = none:=fun c hc=>I1.hok.fresh hc
 refine ⟨s1.heap.objs.size + 4, [s1.heap.objs.size + 4, s1.heap.objs.size + 2, s1.heap.objs.size + 3, s1.heap.objs.size, s1.heap.objs.size + 1], _, _, H1, rfl, I1.kept (t':=s1.toks) kp, turn_zip l1 l2 _ _ _ _ _ ⟨?_, ?_, ?_, ?_, ?_, ?_, ?_, ?_, ?_, ?_⟩, ⟨hz, hTI, ⟨_, _, hTO⟩, h1, h2⟩, fun c hc=>?_, q⟩
 any_goals (refine Nat.ne_of_lt ?_; omega)
 any_goals (refine Nat.ne_of_gt ?_; omega)
 have hle:s1.heap.objs.size ≤ c:=by
  simp only [List.mem_cons, List.not_mem_nil, or_false] at hc
  rcases hc with z | z | z | z | z <;> (subst z; first | exact Nat.le_refl _ | exact Nat.le_add_right _ _)
 exact I1.fpOk hle (hfree c hle)
def tLRng (ta:TA):TE:=fun σ H Q=>ta σ H fun vs H1=>∃ i j:Int, vs = [.int i, .int j] ∧ (-(2 ^ 62) ≤ i ∧ i < 2 ^ 62 ∧ -(2 ^ 62) ≤ j ∧ j < 2 ^ 62) ∧ (j - i).toNat ≤ 2 ^ 24 ∧ ∀ l, H1 l = none -> Q (.ref l) (upd H1 l (.lst ((List.range (j - i).toNat).map fun k:Nat=>V.int (i + k))))
theorem pe_listRange {a b:Expr} {ta:TA} {p p2 pos pos2:Pos} (hc:X.calm = true) (hgl:Gl X "list") (hml:X.mg "list" = none) (hg:Gl X "range") (hm:X.mg "range" = none) (ha:PA X [a, b] ta) (hs:starEach [a, b] X.env = [(false, eval a X.env), (false, eval b X.env)]:=by rfl) (hs2:starEach [b] X.env = [(false, eval b X.env)]:=by rfl)
  (hs3:starEach [(.Call (.Name "range" p2) [a, b] [] pos2:Expr)] X.env = [(false, eval (.Call (.Name "range" p2) [a, b] [] pos2) X.env)]:=by rfl) :
  PE X (.Call (.Name "list" p) [.Call (.Name "range" p2) [a, b] [] pos2] [] pos) (tLRng ta):=by
 intro pins s σ H Q I h
 refine wpAny_Call_Name_kw (ld_blt I hgl hml boot_list ?_)
 refine PyProof.Rows.callWith_type1 ?_ (by rw [hs3]; rfl) rfl
 rw [hs3]
 show wpAny _ _ (spliced ((false, eval (.Call (.Name "range" p2) [a, b] [] pos2) X.env) :: [])) _ _ s
 refine Calls.spliced_cons (Call_ (ld_blt I hg hm boot_range (PyProof.Rows.callWith_type1 (thn (ha pos2 pins s σ H _ I h) fun us s1 ⟨vs, H1, I1, r1, q1⟩=>?_) (by rw [hs, hs2]) (by rw [hs2]; rfl))))
 obtain ⟨i, j, e, ⟨q1, q2, q3, q4⟩, hz, q⟩:=q1
 subst e
 obtain ⟨u, u', rfl, ⟨t, rfl⟩, ⟨t', rfl⟩⟩:=vals2 r1
 refine call_range_2 ?_
 refine Calls.spliced_nil ?_
 have I2:=fun (ob:Obj) (tk:Nat)=>I1.kept (t':=tk) (h':=s1.heap.push ob) fun b o e=>Heap.get?_push_of_some _ e
 have hsm:=small_one q1 q2 q3 q4
 have hn:Builtin.Range.rangeSize i j 1 = (((j - i).toNat:Nat):Int):=by rw [rangeSize_one]; split <;> omega
 refine call_list_range (I1.ok.hd hc) (IsRange.new ..) hsm hn hz fun h' tk acc c kp hD ha=>?_
 have hlen:acc.size = (j - i).toNat:=ha.1
 refine ⟨.ref _, _, (I2 _ _).laid (o:=.lst ((List.range (j - i).toNat).map fun k:Nat=>V.int (i + k))) (t':=tk) kp (Nat.le_refl _) ⟨by rw [List.length_map, List.length_range, sizeLine_eq]; exact hz, acc.toList, c, ?_, by rw [Array.toArray_toList]; exact hD⟩, rfl, q _ ((I2 _ _).hok.fresh (Nat.le_refl _))⟩
 refine vals_of_get (by rw [List.length_map, List.length_range, Array.length_toList, hlen]) fun k x v e1 e2=>?_
 rw [List.getElem?_map] at e1
 have hk:k < (j - i).toNat:=by
  have:=(List.getElem?_eq_some_iff.mp e2).1
  rw [Array.length_toList, hlen] at this
  exact this
 rw [List.getElem?_range hk] at e1
 have e1:V.int (i + k) = x:=Option.some.inj e1
 obtain ⟨t2, e3⟩:=ha.2 k v (by rw [← Array.getElem?_toList]; exact e2)
 rw [← e1, e3, Int.mul_one]
 exact ⟨t2, rfl⟩
theorem keysAt_strs {s:Shared} {prog:Program} {w:World} {A:Around} {ks:List Value} {ns:List Str} (h2:2 ≤ ks.length) (r:Vals (ns.map V.str) ks):KeysAt prog w A ks (fun i j=>decide ((ns.getD i "").cps.toList < (ns.getD j "").cps.toList)) s:=by
 have hl:=r.length
 rw [List.length_map] at hl
 have get:∀ i, i < ks.length -> ∃ t, ks.getD i .none = .str (ns.getD i "") t:=fun i hi=>by
  have hi':i < ns.length:=by omega
  obtain ⟨u, hu, ru⟩:=r.get (i:=i) (x:=.str ns[i]) (by simp [hi'])
  obtain ⟨t, rfl⟩:=ru
  exact ⟨t, by rw [List.getD_eq_getElem?_getD, hu, List.getD_eq_getElem?_getD, List.getElem?_eq_getElem hi']; rfl⟩
 refine ⟨oneType', fun Q E q=>PySem.W.kas_kind h2 (T:=.type "str") (fun v hv=>?_) (by decide) (by decide) q, fun i j hi hj hij C hC=>?_⟩
 ·obtain ⟨i, hi, rfl⟩:=List.mem_iff_getElem.mp hv
  obtain ⟨t, ht⟩:=get i hi
  rw [List.getD_eq_getElem?_getD, List.getElem?_eq_getElem hi] at ht
  have ht:ks[i] = .str (ns.getD i "") t:=ht
  rw [ht]
  exact PySem.W.Looks.now
 ·obtain ⟨t, e1⟩:=get i hi
  obtain ⟨u, e2⟩:=get j hj
  unfold PySem.W.kas_ask
  rw [e1, e2, keyLt'_oneType]
  exact oneLt_str hC
abbrev sLt (a b:Str):Prop:=a.cps.toList < b.cps.toList
theorem str_ext {a b:Str} (h:a.cps.toList = b.cps.toList):a = b:=by
 cases a with
 | mk x=>cases b with
   | mk y=>
     congr 1
     exact Array.toList_inj.mp h
theorem sLt_irr (a:Str):¬ sLt a a:=List.lt_irrefl _
theorem sLt_tr {a b c:Str} (h1:sLt a b) (h2:sLt b c):sLt a c:=List.lt_trans h1 h2
theorem sLt_tot {a b:Str} (h:a ≠ b):sLt a b ∨ sLt b a:=by
 by_cases h1:a.cps.toList < b.cps.toList
 ·exact .inl h1
 by_cases h2:b.cps.toList < a.cps.toList
 ·exact .inr h2
 exact absurd (str_ext (List.le_antisymm (List.not_lt.mp h2) (List.not_lt.mp h1))) h
theorem sOrd_strs {ns:List Str} (hd:ns.Nodup):SOrd (fun i j=>decide ((ns.getD i "").cps.toList < (ns.getD j "").cps.toList)) ns.length where
 irr:=fun i _=>decide_eq_false (sLt_irr _)
 tr:=fun i j k _ _ _ h1 h2=>decide_eq_true (sLt_tr (of_decide_eq_true h1) (of_decide_eq_true h2))
 tot:=fun i j hi hj hij=>by
  have hne:ns.getD i "" ≠ ns.getD j "":=by
   rw [show ns.getD i "" = ns[i] by simp [hi], show ns.getD j "" = ns[j] by simp [hj]]
   rcases Nat.lt_or_gt_of_ne hij with z | z
   ·exact List.pairwise_iff_getElem.mp hd i j hi hj z
   ·exact (List.pairwise_iff_getElem.mp hd j i hj hi z).symm
  rcases sLt_tot hne with z | z
  ·exact .inl (decide_eq_true z)
  ·exact .inr (decide_eq_true z)
theorem call_sortedS (hc:X.calm = true):CallR X (.builtin "sorted") (fun us H Q=>∃ (x:V) (ns:List Str), us = [x] ∧ Coll X.K H x (ns.map V.str) ∧ ns.length < 64 ∧ ns.Nodup ∧ ∀ (qs:List Str) D, qs.Perm ns -> qs.Pairwise sLt -> H D = none -> Q (.ref D) (upd H D (.lst (qs.map V.str)))):=by
 intro pins s σ H us vs Q I r h
 obtain ⟨x, ns, rfl, hcoll, h64, hd, hq⟩:=h
 obtain ⟨u, rfl, ru⟩:=vals1 r
 have hh:X.A.handled = none:=I.ok.hd hc
 obtain ⟨hz, hcol⟩:=coll_ok (A:=X.A.in1) I hh hcoll ru
 have hl:(ns.map V.str).length = ns.length:=List.length_map ..
 refine sorted_from (xs:=ns.map V.str) (o:=fun i j=>decide ((ns.getD i "").cps.toList < (ns.getD j "").cps.toList)) (by rw [hl]; exact h64) (by rw [hl]; exact sOrd_strs hd) hcol (fun h2 h' tk vs' rv kp=>?_) fun D h1 h' tk vs' p c rv P R k1 hD k2 e=>?_
 ·exact keysAt_strs (by have:=rv.length; omega) rv
 ·rw [hl] at P R
  obtain ⟨hn, IF⟩:=sorted_new (tk:=tk) I k1 hD k2 rv (by rw [hl]; exact P) hz e
  have eq:(p.toList.map fun i=>(ns.map V.str).getD i .non) = (p.toList.map fun i=>ns.getD i "").map V.str:=by
   rw [List.map_map]
   refine List.map_congr_left fun i hi=>?_
   have hi':i < ns.length:=List.mem_range.mp (P.perm.mem_iff.mp hi)
   show (ns.map V.str).getD i .non = V.str (ns.getD i "")
   simp [List.getD_eq_getElem?_getD, hi']
  rw [eq] at IF
  refine ⟨.ref D, _, IF, rfl, hq _ D (perm_items P) ?_ hn⟩
  refine rise_items P R fun i j hi hj hij=>of_decide_eq_true hij
theorem sorted_uniq:∀ {xs ys:List Str}, xs.Pairwise sLt -> ys.Pairwise sLt -> (∀ z, z ∈ xs ↔ z ∈ ys) -> xs = ys
 | [], [], _, _, _=>rfl
 | [], y :: ys, _, _, h=>by have:=(h y).mpr List.mem_cons_self; simp at this
 | x :: xs, [], _, _, h=>by have:=(h x).mp List.mem_cons_self; simp at this
 | x :: xs, y :: ys, h1, h2, h=>by
   rw [List.pairwise_cons] at h1 h2
   have e:x = y:=by
    rcases List.mem_cons.mp ((h x).mp List.mem_cons_self) with e | e
    ·exact e
    rcases List.mem_cons.mp ((h y).mpr List.mem_cons_self) with e' | e'
    ·exact e'.symm
    exact absurd (sLt_tr (h2.1 x e) (h1.1 y e')) (sLt_irr _)
   subst e
   have nx:∀ z, z ∈ xs -> z ≠ x:=fun z hz e=>sLt_irr x (by have:=h1.1 z hz; rw [e] at this; exact this)
   have ny:∀ z, z ∈ ys -> z ≠ x:=fun z hz e=>sLt_irr x (by have:=h2.1 z hz; rw [e] at this; exact this)
   rw [sorted_uniq h1.2 h2.2 fun z=>⟨fun hz=>(List.mem_cons.mp ((h z).mp (List.mem_cons_of_mem _ hz))).resolve_left (nx z hz), fun hz=>(List.mem_cons.mp ((h z).mpr (List.mem_cons_of_mem _ hz))).resolve_left (ny z hz)⟩]
end
end L2

namespace Lk
open PySem L2
abbrev sIsWhole:Stmt:=top 7
abbrev sIsName:Stmt:=top 8
abbrev sCkName:Stmt:=top 9
abbrev sCkWeight:Stmt:=top 10
abbrev sCkSteps:Stmt:=top 11
abbrev sCkRule:Stmt:=top 13
abbrev sAgeings:Stmt:=top 15
abbrev sAged:Stmt:=top 16
structure Blt (mg:Str -> Option Value):Prop where
 isi:mg "isinstance" = none
 len:mg "len" = none
 all_:mg "all" = none
 min_:mg "min" = none
 range:mg "range" = none
 list:mg "list" = none
 sorted:mg "sorted" = none
 enum:mg "enumerate" = none
 int:mg "int" = none
 bool:mg "bool" = none
 str:mg "str" = none
theorem kit_ii (K:PySem.W.Frag):PySem.W.kitOne K (.type "int") (.type "int") = some true:=by
 first | rfl | decide +kernel
theorem kit_ib (K:PySem.W.Frag):PySem.W.kitOne K (.type "int") (.type "bool") = some false:=by
 first | rfl | decide +kernel
theorem kit_bb (K:PySem.W.Frag):PySem.W.kitOne K (.type "bool") (.type "bool") = some true:=by
 first | rfl | decide +kernel
theorem kit_ss (K:PySem.W.Frag):PySem.W.kitOne K (.type "str") (.type "str") = some true:=by
 first | rfl | decide +kernel
theorem kit_ll (K:PySem.W.Frag):PySem.W.kitOne K (.type "list") (.type "list") = some true:=by
 first | rfl | decide +kernel
section
variable {X:Cx}
theorem pe_isi {a:Expr} {ta:TE} {T:String} {x:Str} {p p2 pos:Pos} (hm:X.mg "isinstance" = none) (hm2:X.mg x = none) (ha:PE X a ta) (hb:bootBuiltins x = some (.type T)) (hg2:Gl X x:=by rfl) (hn2:x ≠ "__name__":=by decide) (hd2:(x == ("__debug__":Str)) = false:=by decide) (hg:Gl X "isinstance":=by rfl)
  (hs:starEach (a :: [.Name x p2]) X.env = (false, eval a X.env) :: starEach [.Name x p2] X.env:=by rfl) (hpl:(backTo pos (starEach [.Name x p2] X.env)).any (·.1) = false:=by rfl) :
  PE X (.Call (.Name "isinstance" p) [a, .Name x p2] [] pos) (tCB (rIsi X.K) (tCons ta (tCons (tC (.ty T)) tNil))):=
 pe_callB call_isi hg hm PyProof.Rows.boot_isinstance (pa_cons ha (pa_cons (pe_bltn hg2 hm2 hb rfl hn2 hd2) pa_nil) hs) (by decide) (by decide) hs hpl
end
section
variable {P:Program} {w:World} {K:PySem.W.Frag} {mg:Str -> Option Value} {base:Heap}
def spWhole:Sp:=fun vs H Q _=>∃ v lo hi:Int, vs = [.int v, .int lo, .int hi] ∧ Q (.bl (decide (lo ≤ v) && decide (v ≤ hi))) H
theorem scWhole:FnScope ["value", "least", "most"] ["value", "least", "most"] (defScope sIsWhole):=⟨rfl, rfl, rfl, by decide +kernel, rfl, by decide +kernel, by decide +kernel⟩
theorem ok_whole {f:Addr} (F:FunB K "is_whole_within" "is_whole_within" sIsWhole f ["value", "least", "most"]) (B:Blt mg):FnP P w K mg base 1 f ["value", "least", "most"] spWhole:=by
 refine F.ok scWhole (fun vs H Q E h=>?_) (fun cdv A outer s H vs Q E hr h=>?_)
 ·obtain ⟨v, lo, hi, rfl, _⟩:=h
  rfl
 ·obtain ⟨v, lo, hi, rfl, k⟩:=h
  refine ⟨_, pss_cons (ps_if (PW.pt (pw_or (pt_val (pe_isi B.isi B.bool (pv 0) PyProof.Rows.boot_bool)) (pw_or1 (pt_not (pt_val (pe_isi B.isi B.int (pv 0) PyProof.Rows.boot_int)))))) (pss_one (ps_ret pe_bl)) pss_nil)
   (pss_one (ps_ret (pe_chain op_le op_le (pv 1) (pv 0) (pv 2)))), ?_⟩
  refine ⟨_, rfl, _, "bool", _, _, rfl, .int v, kit_ib K, _, rfl, ?_⟩
  refine iteF ?_
  refine ⟨_, rfl, _, "int", _, _, rfl, .int v, kit_ii K, _, rfl, ?_⟩
  refine iteF ?_
  refine ⟨_, rfl, _, rfl, _, _, rfl, rfl, _, rfl, ?_⟩
  refine ite2 (fun h1=>?_) (fun h1=>?_)
  ·refine ⟨_, rfl, _, _, rfl, rfl, ?_⟩
   rw [of_decide_eq_true h1 |> fun z=>decide_eq_true z, Bool.true_and] at k
   exact k
  ·have h1':decide (lo ≤ v) = false:=by simpa using h1
   rw [h1', Bool.false_and] at k
   exact k
def GoodName (x:Str):Prop:=1 ≤ x.length ∧ x.length ≤ 40 ∧ ∀ c ∈ x.cps.toList, 32 ≤ c ∧ c ≤ 126
def spName:Sp:=fun vs H Q _=>∃ x:Str, vs = [.str x] ∧ GoodName x ∧ ∀ H', Same H H' -> Q (.bl true) H'
theorem scName:FnScope ["value"] ["value"] (defScope sIsName):=⟨rfl, rfl, rfl, by decide +kernel, rfl, by decide +kernel, by decide +kernel⟩
theorem lt_one {a b:Nat}:([a] < [b]) ↔ a < b:=by
 rw [List.cons_lt_cons_iff]
 simp
theorem sign_lo {c:Nat} (h:32 ≤ c):(!decide ((⟨#[c]⟩:Str).cps.toList < (" ":Str).cps.toList)) = true:=by
 rw [show (" ":Str).cps.toList = [32] by decide, Bool.not_eq_true', decide_eq_false_iff_not]
 show ¬ ([c] < [32])
 rw [lt_one]
 omega
theorem sign_hi {c:Nat} (h:c ≤ 126):(!decide (("~":Str).cps.toList < (⟨#[c]⟩:Str).cps.toList)) = true:=by
 rw [show ("~":Str).cps.toList = [126] by decide, Bool.not_eq_true', decide_eq_false_iff_not]
 show ¬ ([126] < [c])
 rw [lt_one]
 omega
theorem ok_name {f:Addr} (F:FunB K "is_name" "is_name" sIsName f ["value"]) (B:Blt mg):FnP P w K mg base 1 f ["value"] spName:=by
 refine F.ok scName (fun vs H Q E h=>?_) (fun cdv A outer s H vs Q E hr h=>?_)
 ·obtain ⟨x, rfl, _⟩:=h
  rfl
 ·obtain ⟨x, rfl, ⟨g1, g2, g3⟩, k⟩:=h
  refine ⟨_, pss_cons (ps_if (pt_not (pt_val (pe_isi B.isi B.str (pv 0) PyProof.Rows.boot_str))) (pss_one (ps_ret pe_bl)) pss_nil)
   (pss_one (ps_ret (pe_and (pe_chain op_le op_le pe_int (pe_callB call_len_str rfl B.len PySem.boot_len (pa_cons (pv 0) pa_nil)) pe_int)
     (pe_one (pe_callB (call_all rfl) rfl B.all_ PyProof.Rows.boot_all (pa_cons
       (pe_lc (N':=["sign"]) (cap:=[none]) rfl rfl (pi_str (pv 0)) (fun _ _ _ _ _=>pg_name (i:=0) (by decide +kernel:(["sign"]:List Str).Nodup) rfl (Or.inl rfl)) (fun _ _ _ _ _=>pts_nil)
         (fun _ _ _ _ _=>pe_chain op_le_str op_le_str pe_str (pv 0) pe_str)) pa_nil)))))), ?_⟩
  refine ⟨_, rfl, _, "str", _, _, rfl, .str x, kit_ss K, _, rfl, ?_⟩
  refine iteF ?_
  refine ⟨_, rfl, _, rfl, Nat.le_trans g2 (by decide), _, _, rfl, rfl, _, rfl, ?_⟩
  rw [decide_eq_true (show (1:Int) ≤ (x.length:Int) by omega), if_pos rfl]
  refine ⟨_, _, rfl, rfl, _, rfl, ?_⟩
  rw [decide_eq_true (show (x.length:Int) ≤ 40 by omega), if_pos rfl]
  refine ⟨_, rfl, _, rfl, ?_⟩
  refine lc_go x.cps.size (fun i ys σ' H'=>ys = List.replicate i (V.bl true) ∧ H' = H ∧ ∃ v, σ' = [v]) ⟨rfl, rfl, none, rfl⟩ (Nat.le_trans g2 (by decide)) (fun i ys σ' H' hi _=>hi) (fun _ _ _ _=>Nat.le_refl _) ?_ ?_
  ·rintro i ys σ' H' v H2 hi hl ⟨rfl, rfl, w', rfl⟩ ⟨rfl, c, hc, rfl⟩
   have hm:c ∈ x.cps.toList:=by
    have:x.cps[i]? = some c:=hc
    exact Array.mem_toList_iff.mpr (Array.mem_of_getElem? this)
   obtain ⟨c1, c2⟩:=g3 c hm
   refine ⟨_, rfl, _, _, rfl, rfl, _, rfl, ?_⟩
   rw [sign_lo c1, if_pos rfl]
   refine ⟨_, _, rfl, rfl, ?_⟩
   rw [sign_hi c2]
   refine lcYes hi hl (Nat.le_trans g2 (by decide)) ⟨?_, rfl, _, rfl⟩
   rw [List.replicate_succ']
  ·rintro ys σ' H' ⟨rfl, rfl, w', rfl⟩ p hp
   refine ⟨p, List.replicate x.cps.size true, rfl, SqL.of ?_, ?_⟩
   ·rw [upd_same, List.map_replicate]
   ·rw [show (List.replicate x.cps.size true).all id = true by simp]
    exact k _ (Same.upd hp)
def spCkName:Sp:=fun vs H Q _=>∃ x:Str, vs = [.str x] ∧ GoodName x ∧ ∀ H', Same H H' -> Q .non H'
theorem scCkName:FnScope ["name"] ["name"] (defScope sCkName):=⟨rfl, rfl, rfl, by decide +kernel, rfl, by decide +kernel, by decide +kernel⟩
theorem ok_ckName {f g:Addr} (F:FunB K "check_name" "check_name" sCkName f ["name"]) (G:FnP P w K mg base 1 g ["value"] spName) (hg:mg "is_name" = some (.ref g)):FnP P w K mg base 2 f ["name"] spCkName:=by
 refine F.ok scCkName (fun vs H Q E h=>?_) (fun cdv A outer s H vs Q E hr h=>?_)
 ·obtain ⟨x, rfl, _⟩:=h
  rfl
 ·obtain ⟨x, rfl, g1, k⟩:=h
  refine ⟨_, pss_one (ps_if (pt_not (pt_val (pe_callP G hr hg (pa_cons (pv 0) pa_nil)))) pss_never pss_nil), ?_⟩
  refine ⟨_, rfl, x, rfl, g1, fun H' S=>⟨_, rfl, ?_⟩⟩
  exact iteF (k H' S)
theorem p30:(10:Int) ^ Int.toNat 30 = 1000000000000000000000000000000:=by decide
theorem p20:(10:Int) ^ Int.toNat 20 = 100000000000000000000:=by decide
theorem pow_ok (n:Int) (h:0 ≤ n) (h2:n ≤ 1000):CPow 10 n:=⟨h, by omega, by decide⟩
def spCkWeight:Sp:=fun vs H Q _=>∃ x:Int, vs = [.int x] ∧ 1 ≤ x ∧ x ≤ 10 ^ 30 ∧ Q .non H
theorem scCkWeight:FnScope ["weight"] ["weight"] (defScope sCkWeight):=⟨rfl, rfl, rfl, by decide +kernel, rfl, by decide +kernel, by decide +kernel⟩
theorem ok_ckWeight {f g:Addr} (F:FunB K "check_weight" "check_weight" sCkWeight f ["weight"]) (G:FnP P w K mg base 1 g ["value", "least", "most"] spWhole) (hg:mg "is_whole_within" = some (.ref g)):FnP P w K mg base 2 f ["weight"] spCkWeight:=by
 refine F.ok scCkWeight (fun vs H Q E h=>?_) (fun cdv A outer s H vs Q E hr h=>?_)
 ·obtain ⟨x, rfl, _⟩:=h
  rfl
 ·obtain ⟨x, rfl, g1, g2, k⟩:=h
  refine ⟨_, pss_one (ps_if (pt_not (pt_val (pe_callP G hr hg (pa_cons (pv 0) (pa_cons pe_int (pa_cons (pe_op op_pow pe_int pe_int) pa_nil)))))) pss_never pss_nil), ?_⟩
  refine ⟨_, rfl, _, _, rfl, rfl, pow_ok _ (by decide) (by decide), x, _, _, rfl, _, rfl, ?_⟩
  rw [p30, decide_eq_true (show (1:Int) ≤ x from g1), decide_eq_true (show x ≤ 1000000000000000000000000000000 by omega)]
  exact iteF k
def spCkSteps:Sp:=fun vs H Q _=>∃ x:Int, vs = [.int x] ∧ 0 ≤ x ∧ x ≤ 10 ^ 30 ∧ Q .non H
theorem scCkSteps:FnScope ["steps"] ["steps"] (defScope sCkSteps):=⟨rfl, rfl, rfl, by decide +kernel, rfl, by decide +kernel, by decide +kernel⟩
theorem ok_ckSteps {f g:Addr} (F:FunB K "check_steps" "check_steps" sCkSteps f ["steps"]) (G:FnP P w K mg base 1 g ["value", "least", "most"] spWhole) (hg:mg "is_whole_within" = some (.ref g)):FnP P w K mg base 2 f ["steps"] spCkSteps:=by
 refine F.ok scCkSteps (fun vs H Q E h=>?_) (fun cdv A outer s H vs Q E hr h=>?_)
 ·obtain ⟨x, rfl, _⟩:=h
  rfl
 ·obtain ⟨x, rfl, g1, g2, k⟩:=h
  refine ⟨_, pss_one (ps_if (pt_not (pt_val (pe_callP G hr hg (pa_cons (pv 0) (pa_cons pe_int (pa_cons (pe_op op_pow pe_int pe_int) pa_nil)))))) pss_never pss_nil), ?_⟩
  refine ⟨_, rfl, _, _, rfl, rfl, pow_ok _ (by decide) (by decide), x, _, _, rfl, _, rfl, ?_⟩
  rw [p30, decide_eq_true (show (0:Int) ≤ x from g1), decide_eq_true (show x ≤ 1000000000000000000000000000000 by omega)]
  exact iteF k
def spCkRule:Sp:=fun vs H Q _=>∃ x y:Int, vs = [.int x, .int y] ∧ 1 ≤ x ∧ x ≤ 10 ^ 20 ∧ 2 ≤ y ∧ y ≤ 10 ^ 30 ∧ Q .non H
theorem scCkRule:FnScope ["span", "part"] ["span", "part"] (defScope sCkRule):=⟨rfl, rfl, rfl, by decide +kernel, rfl, by decide +kernel, by decide +kernel⟩
theorem ok_ckRule {f g:Addr} (F:FunB K "check_rule" "check_rule" sCkRule f ["span", "part"]) (G:FnP P w K mg base 1 g ["value", "least", "most"] spWhole) (hg:mg "is_whole_within" = some (.ref g)):FnP P w K mg base 2 f ["span", "part"] spCkRule:=by
 refine F.ok scCkRule (fun vs H Q E h=>?_) (fun cdv A outer s H vs Q E hr h=>?_)
 ·obtain ⟨x, y, rfl, _⟩:=h
  rfl
 ·obtain ⟨x, y, rfl, g1, g2, g3, g4, k⟩:=h
  refine ⟨_, pss_cons (ps_if (pt_not (pt_val (pe_callP G hr hg (pa_cons (pv 0) (pa_cons pe_int (pa_cons (pe_op op_pow pe_int pe_int) pa_nil)))))) pss_never pss_nil)
   (pss_one (ps_if (pt_not (pt_val (pe_callP G hr hg (pa_cons (pv 1) (pa_cons pe_int (pa_cons (pe_op op_pow pe_int pe_int) pa_nil)))))) pss_never pss_nil)), ?_⟩
  refine ⟨_, rfl, _, _, rfl, rfl, pow_ok _ (by decide) (by decide), x, _, _, rfl, _, rfl, ?_⟩
  rw [p20, decide_eq_true (show (1:Int) ≤ x from g1), decide_eq_true (show x ≤ 100000000000000000000 by omega)]
  refine iteF ?_
  refine ⟨_, rfl, _, _, rfl, rfl, pow_ok _ (by decide) (by decide), y, _, _, rfl, _, rfl, ?_⟩
  rw [p30, decide_eq_true (show (2:Int) ≤ y from g3), decide_eq_true (show y ≤ 1000000000000000000000000000000 by omega)]
  exact iteF k
def spAgeings:Sp:=fun vs H Q _=>∃ a b c:Int, vs = [.int a, .int b, .int c] ∧ 1 ≤ a ∧ a ≤ 10 ^ 20 ∧ Q (.int (c / a - b / a)) H
theorem scAgeings:FnScope ["span", "since", "upto"] ["span", "since", "upto"] (defScope sAgeings):=⟨rfl, rfl, rfl, by decide +kernel, rfl, by decide +kernel, by decide +kernel⟩
theorem div_ok {a:Int} (h:1 ≤ a) (h2:a ≤ 10 ^ 30):CDivB b a:=⟨by omega, by omega⟩
theorem ok_ageings {f:Addr} (F:FunB K "ageings" "ageings" sAgeings f ["span", "since", "upto"]):FnP P w K mg base 1 f ["span", "since", "upto"] spAgeings:=by
 refine F.ok scAgeings (fun vs H Q E h=>?_) (fun cdv A outer s H vs Q E hr h=>?_)
 ·obtain ⟨a, b, c, rfl, _⟩:=h
  rfl
 ·obtain ⟨a, b, c, rfl, g1, g2, k⟩:=h
  refine ⟨_, pss_one (ps_ret (pe_op op_sub (pe_op op_fdivB (pv 2) (pv 0)) (pe_op op_fdivB (pv 1) (pv 0)))), ?_⟩
  exact ⟨_, rfl, _, rfl, _, _, rfl, rfl, div_ok g1 (by omega), _, rfl, _, rfl, _, _, rfl, rfl, div_ok g1 (by omega), _, _, rfl, rfl, k⟩
def agedI (c p t:Int):Int:=((c.toNat / p.toNat ^ t.toNat:Nat):Int)
theorem agedI_zero {c p:Int} (h:0 ≤ c):agedI c p 0 = c:=by
 unfold agedI
 rw [show (0:Int).toNat = 0 from rfl, Nat.pow_zero, Nat.div_one]
 omega
theorem agedI_le {c p t:Int} (h:0 ≤ c):agedI c p t ≤ c:=by
 unfold agedI
 have:=Nat.div_le_self c.toNat (p.toNat ^ t.toNat)
 omega
theorem agedI_step {c p:Int} (n:Nat) (hp:0 ≤ p):agedI c p n / p = agedI c p (n + 1):=by
 unfold agedI
 rw [show ((n:Int) + 1).toNat = n + 1 by omega, show (n:Int).toNat = n by omega, Nat.pow_succ, ← Nat.div_div_eq_div_mul]
 obtain ⟨q, rfl⟩:=Int.eq_ofNat_of_zero_le hp
 rw [Int.toNat_natCast]
 norm_cast
theorem agedI_big {c p t:Int} {n:Nat} (hp:2 ≤ p) (hb:c.natAbs < 2 ^ n) (h0:0 ≤ c) (ht:(n:Int) ≤ t):agedI c p t = 0:=by
 unfold agedI
 have h1:(2:Nat) ^ n ≤ p.toNat ^ n:=Nat.pow_le_pow_left (by omega) n
 have h2:p.toNat ^ n ≤ p.toNat ^ t.toNat:=Nat.pow_le_pow_right (by omega) (by omega)
 have h3:c.toNat < p.toNat ^ t.toNat:=by omega
 rw [Nat.div_eq_of_lt h3]
 rfl
theorem bits_lt (c:Int):c.natAbs < 2 ^ Builtin.Int.intBits c:=PySem.intBits_le_iff.mp (Nat.le_refl _)
theorem bits_le {c:Int} (h:0 ≤ c) (h2:c ≤ 10 ^ 60):Builtin.Int.intBits c ≤ 400:=by
 refine PySem.intBits_le_iff.mpr ?_
 have e:c.natAbs ≤ 10 ^ 60:=by omega
 exact Nat.lt_of_le_of_lt e (by decide +kernel)
def spAged:Sp:=fun vs H Q _=>∃ c p t:Int, vs = [.int c, .int p, .int t] ∧ 0 ≤ c ∧ c ≤ 10 ^ 60 ∧ 2 ≤ p ∧ p ≤ 10 ^ 30 ∧ 0 ≤ t ∧ Q (.int (agedI c p t)) H
theorem scAged:FnScope ["count", "part", "times", "needed", "step"] ["count", "part", "times"] (defScope sAged):=⟨rfl, rfl, rfl, by decide +kernel, rfl, by decide +kernel, by decide +kernel⟩
theorem ok_aged {f:Addr} (F:FunB K "aged" "aged" sAged f ["count", "part", "times"]) (B:Blt mg):FnP P w K mg base 1 f ["count", "part", "times"] spAged:=by
 refine F.ok scAged (fun vs H Q E h=>?_) (fun cdv A outer s H vs Q E hr h=>?_)
 ·obtain ⟨c, p, t, rfl, _⟩:=h
  rfl
 ·obtain ⟨c, p, t, rfl, g1, g2, g3, g4, g5, k⟩:=h
  refine ⟨_, pss_cons (ps_set (i:=3) scAged.nd rfl (Or.inl rfl) (pe_callB (call_min2 rfl) rfl B.min_ PyProof.Rows.boot_min (pa_cons (pv 2) (pa_cons (pe_bm0 PySem.F.plainAttrs_int PySem.F.slot_int_bit_length PySem.F.type_int_bit_length mt_bits (pv 0)) pa_nil))))
   (pss_cons (ps_for PassesOwn.never rfl (pi_range1 rfl B.range (pa_cons (pv 3) pa_nil)) (pg_name (i:=4) scAged.nd rfl (Or.inl rfl)) (pss_one (ps_set (i:=0) scAged.nd rfl (Or.inl rfl) (pe_op op_fdivB (pv 0) (pv 1)))))
   (pss_one (ps_ret (pv 0)))), ?_⟩
  have hb:=bits_le g1 g2
  have hb2:=bits_lt c
  refine ⟨_, rfl, _, rfl, rfl, _, rfl, rfl, _, _, rfl, ?_⟩
  refine ⟨_, rfl, _, rfl, by split <;> omega, by split <;> omega, ?_⟩
  generalize hn:(if (Builtin.Int.intBits c:Int) < t then (Builtin.Int.intBits c:Int) else t) = n
  refine for_range (Pv:=fun i σ H'=>∃ z, σ = [some (.int (agedI c p i)), some (.int p), some (.int t), some (.int n), z] ∧ H' = H) ⟨none, ?_, rfl⟩ ?_ ?_
  ·rw [show ((0:Nat):Int) = 0 from rfl, agedI_zero g1]; rfl
  ·rintro i σ H' hi ⟨z, rfl, rfl⟩
   refine ⟨_, rfl, _, rfl, _, _, rfl, rfl, div_ok (by omega) g4, some (.int (0 + i)), ?_, rfl⟩
   show [some (V.int (agedI c p i / p)), some (V.int p), some (V.int t), some (V.int n), some (V.int (0 + i))] = _
   rw [agedI_step i (by omega)]
   rfl
  ·rintro σ H' ⟨z, rfl, rfl⟩
   refine ⟨_, rfl, ?_⟩
   have e:agedI c p (n.toNat:Nat) = agedI c p t:=by
    by_cases hlt:(Builtin.Int.intBits c:Int) < t
    ·rw [if_pos hlt] at hn
     rw [← hn, agedI_big (n:=Builtin.Int.intBits c) g3 hb2 g1 (by omega), agedI_big (n:=Builtin.Int.intBits c) g3 hb2 g1 (by omega)]
    ·rw [if_neg hlt] at hn
     rw [← hn, show ((t.toNat:Nat):Int) = t by omega]
   show Q (.int (agedI c p (n.toNat:Nat))) _
   rw [e]
   exact k
end
end Lk

namespace Lk
open PySem L2
abbrev sBook:Stmt:=top 18
abbrev sInit:Stmt:=inClass sBook 0
abbrev sRest:Stmt:=inClass sBook 2
abbrev sTimeNow:Stmt:=inClass sBook 4
abbrev sDeedsDone:Stmt:=inClass sBook 5
abbrev sCountOf:Stmt:=inClass sBook 6
abbrev sLastOf:Stmt:=inClass sBook 7
abbrev sInOrder:Stmt:=inClass sBook 9
abbrev sStrength:Stmt:=inClass sBook 10
abbrev sBeginAsk:Stmt:=inClass sBook 11
abbrev sGrow:Stmt:=inClass sBook 12
abbrev sBeginDrop:Stmt:=inClass sBook 13
abbrev sPassTime:Stmt:=inClass sBook 14
abbrev sAgeCounts:Stmt:=inClass sBook 15
structure BS where
 span:Int
 part:Int
 time:Int
 deeds:Int
 ents:List (Str × Int × Int)
def tabK (mk:Str × Int × Int -> V) (es:List (Str × Int × Int)):List (Key × V):=es.map fun e=>(Sum.inr e.1, mk e)
abbrev mC:Str × Int × Int -> V:=fun e=>.int e.2.1
abbrev mL:Str × Int × Int -> V:=fun e=>.int e.2.2
abbrev namesOf (es:List (Str × Int × Int)):List Str:=es.map (·.1)
def findE (es:List (Str × Int × Int)) (n:Str):Option (Str × Int × Int):=es.find? fun e=>decide (e.1 = n)
theorem tabK_append (mk:Str × Int × Int -> V) (a b:List (Str × Int × Int)):tabK mk (a ++ b) = tabK mk a ++ tabK mk b:=by unfold tabK; rw [List.map_append]
theorem tabK_length (mk:Str × Int × Int -> V) (a:List (Str × Int × Int)):(tabK mk a).length = a.length:=by unfold tabK; rw [List.length_map]
theorem valV_tab (mk:Str × Int × Int -> V) (n:Str):∀ es, valV (tabK mk es) (Sum.inr n:Key) = (findE es n).map mk
 | []=>rfl
 | e :: r=>by
   by_cases h:e.1 = n
   ·have h1:findE (e :: r) n = some e:=by unfold findE; rw [List.find?_cons, decide_eq_true h]
    rw [h1]
    exact valV_pos (p:=(Sum.inr e.1, mk e)) (congrArg Sum.inr h)
   ·have h1:findE (e :: r) n = findE r n:=by unfold findE; rw [List.find?_cons, decide_eq_false h]
    rw [h1, ← valV_tab mk n r]
    exact valV_neg (p:=(Sum.inr e.1, mk e)) (fun z=>h (Sum.inr.inj z))
theorem findE_none {es:List (Str × Int × Int)} {n:Str} (h:n ∉ namesOf es):findE es n = none:=by
 unfold findE
 rw [List.find?_eq_none]
 intro e he
 simp only [decide_eq_true_eq]
 intro z
 exact h (List.mem_map.mpr ⟨e, he, z⟩)
theorem findE_mid {a b:List (Str × Int × Int)} {e:Str × Int × Int} (h:e.1 ∉ namesOf a):findE (a ++ e :: b) e.1 = some e:=by
 unfold findE
 rw [List.find?_append]
 have:(a.find? fun x=>decide (x.1 = e.1)) = none:=findE_none h
 rw [this, List.find?_cons, decide_eq_true rfl]
 rfl
theorem findE_some {es:List (Str × Int × Int)} {n:Str} {e:Str × Int × Int} (h:findE es n = some e):e.1 = n ∧ ∃ a b, es = a ++ e :: b ∧ n ∉ namesOf a:=by
 induction es with
 | nil=>cases h
 | cons x r ih=>
   by_cases hx:x.1 = n
   ·have h1:findE (x :: r) n = some x:=by unfold findE; rw [List.find?_cons, decide_eq_true hx]
    rw [h1] at h
    cases h
    exact ⟨hx, [], r, rfl, by simp⟩
   ·have h1:findE (x :: r) n = findE r n:=by unfold findE; rw [List.find?_cons, decide_eq_false hx]
    rw [h1] at h
    obtain ⟨h2, a, b, h3, h4⟩:=ih h
    refine ⟨h2, x :: a, b, by rw [h3]; rfl, ?_⟩
    intro z
    rcases List.mem_cons.mp z with z | z
    ·exact hx z.symm
    ·exact h4 z
theorem findE_mem {es:List (Str × Int × Int)} {n:Str} {e:Str × Int × Int} (h:findE es n = some e):e ∈ es:=by
 obtain ⟨_, a, b, rfl, _⟩:=findE_some h
 exact List.mem_append_right _ List.mem_cons_self
theorem findE_isNone {es:List (Str × Int × Int)} {n:Str} (h:findE es n = none):n ∉ namesOf es:=by
 intro hm
 obtain ⟨e, he, rfl⟩:=List.mem_map.mp hm
 unfold findE at h
 rw [List.find?_eq_none] at h
 exact h e he (decide_eq_true rfl)
theorem map_other {mk:Str × Int × Int -> V} {n:Str} {v:V}:∀ {a:List (Str × Int × Int)}, n ∉ namesOf a -> ((tabK mk a).map fun kv=>if kv.1 = (Sum.inr n:Key) then (kv.1, v) else kv) = tabK mk a
 | [], _=>rfl
 | e :: r, h=>by
   have h1:¬ e.1 = n:=fun z=>h (by rw [← z]; exact List.mem_cons_self)
   show (if (Sum.inr e.1:Key) = Sum.inr n then _ else (Sum.inr e.1, mk e)) :: ((tabK mk r).map _) = (Sum.inr e.1, mk e) :: tabK mk r
   rw [if_neg fun z=>h1 (Sum.inr.inj z), map_other fun z=>h (List.mem_cons_of_mem _ z)]
theorem filter_other {mk:Str × Int × Int -> V} {n:Str}:∀ {a:List (Str × Int × Int)}, n ∉ namesOf a -> dropK (tabK mk a) (Sum.inr n:Key) = tabK mk a
 | [], _=>rfl
 | e :: r, h=>by
   have h1:¬ e.1 = n:=fun z=>h (by rw [← z]; exact List.mem_cons_self)
   show dropK ((Sum.inr e.1, mk e) :: tabK mk r) _ = (Sum.inr e.1, mk e) :: tabK mk r
   rw [dropK_neg fun z=>h1 (Sum.inr.inj z), filter_other fun z=>h (List.mem_cons_of_mem _ z)]
theorem putK_mid {mk:Str × Int × Int -> V} {a b:List (Str × Int × Int)} {e:Str × Int × Int} {v:V} (ha:e.1 ∉ namesOf a) (hb:e.1 ∉ namesOf b) :
  putK (tabK mk (a ++ e :: b)) (Sum.inr e.1:Key) v = tabK mk a ++ (Sum.inr e.1, v) :: tabK mk b:=by
 have hany:((tabK mk (a ++ e :: b)).any fun kv=>decide (kv.1 = (Sum.inr e.1:Key))) = true:=by
  rw [valV_any, valV_tab, findE_mid ha]; rfl
 unfold putK
 rw [if_pos hany, tabK_append, List.map_append, map_other ha]
 show _ ++ (if (Sum.inr e.1:Key) = Sum.inr e.1 then _ else _) :: ((tabK mk b).map _) = _
 rw [if_pos rfl, map_other hb]
theorem dropK_mid {mk:Str × Int × Int -> V} {a b:List (Str × Int × Int)} {e:Str × Int × Int} (ha:e.1 ∉ namesOf a) (hb:e.1 ∉ namesOf b) :
  dropK (tabK mk (a ++ e :: b)) (Sum.inr e.1:Key) = tabK mk (a ++ b):=by
 have h1:=filter_other (mk:=mk) ha
 have h2:=filter_other (mk:=mk) hb
 rw [tabK_append, tabK_append]
 unfold dropK at h1 h2 ⊢
 rw [List.filter_append, h1]
 show _ ++ List.filter _ ((Sum.inr e.1, mk e) :: tabK mk b) = _
 rw [List.filter_cons, if_neg (by simp), h2]
def fldsB (S:BS) (dc dl:Addr) (ex:List (Str × V)):List (Str × V):=
 ("span", .int S.span) :: ("part", .int S.part) :: ("time", .int S.time) :: ("deeds", .int S.deeds) :: ("counts", .ref dc) :: ("lasts", .ref dl) :: ex
section
variable {S:BS} {dc dl:Addr} {ex:List (Str × V)}
theorem f_span:(fldsB S dc dl ex).lookup ("span":Str) = some (.int S.span):=rfl
theorem f_part:(fldsB S dc dl ex).lookup ("part":Str) = some (.int S.part):=rfl
theorem f_time:(fldsB S dc dl ex).lookup ("time":Str) = some (.int S.time):=rfl
theorem f_deeds:(fldsB S dc dl ex).lookup ("deeds":Str) = some (.int S.deeds):=rfl
theorem f_counts:(fldsB S dc dl ex).lookup ("counts":Str) = some (.ref dc):=rfl
theorem f_lasts:(fldsB S dc dl ex).lookup ("lasts":Str) = some (.ref dl):=rfl
theorem f_no {m:Str} (h:m ∉ (["span", "part", "time", "deeds", "counts", "lasts"]:List Str)) (h2:ex.lookup m = none):(fldsB S dc dl ex).lookup m = none:=by
 unfold fldsB
 simp only [List.mem_cons, not_or] at h
 obtain ⟨h1, h3, h4, h5, h6, h7, _⟩:=h
 simp only [List.lookup_cons, beq_eq_false_iff_ne.mpr h1, beq_eq_false_iff_ne.mpr h3, beq_eq_false_iff_ne.mpr h4, beq_eq_false_iff_ne.mpr h5, beq_eq_false_iff_ne.mpr h6, beq_eq_false_iff_ne.mpr h7]
 exact h2
theorem f_setTime (y:Int):putF "time" (.int y) (fldsB S dc dl ex) = fldsB { S with time:=y } dc dl ex:=rfl
theorem f_setDeeds (y:Int):putF "deeds" (.int y) (fldsB S dc dl ex) = fldsB { S with deeds:=y } dc dl ex:=rfl
theorem f_len (h:ex.length ≤ 100):(fldsB S dc dl ex).length < 1000:=by
 unfold fldsB
 simp only [List.length_cons]
 omega
end
end Lk

namespace Lk
open PySem L2
structure Kd (τ:Type) where
 C:Addr
 p:Addr
 dc:Addr
 dl:Addr
 ex:τ -> List (Str × V)
 on:τ -> Hp -> Prop
 own:Addr -> Prop
abbrev exNames:List Str:=["places", "standing", "gone", "line", "met_at"]
structure KdOk {τ:Type} (κ:Kd τ):Prop where
 op:κ.own κ.p
 oc:κ.own κ.dc
 ol:κ.own κ.dl
 ne:κ.dc ≠ κ.dl
 exl:∀ t, (κ.ex t).length ≤ 100
 exn:∀ t m, m ∉ exNames -> (κ.ex t).lookup m = none
 fr:∀ t H H', κ.on t H -> (∀ b o, H b = some o -> κ.own b -> b ≠ κ.p -> b ≠ κ.dc -> b ≠ κ.dl -> H' b = some o) -> (∀ b xs, H b = some (.tup xs) -> H' b = some (.tup xs)) -> κ.on t H'
structure BookAt {τ:Type} (κ:Kd τ) (S:BS) (t:τ) (H:Hp):Prop where
 ob:∃ dx, H κ.p = some (.ins κ.C dx (fldsB S κ.dc κ.dl (κ.ex t)))
 cn:H κ.dc = some (.dK (tabK mC S.ents))
 ls:H κ.dl = some (.dK (tabK mL S.ents))
 ex:κ.on t H
 al:∀ b, κ.own b -> ∃ o, H b = some o ∧ ∀ xs, o ≠ .tup xs
def Fr {τ:Type} (κ:Kd τ) (H H':Hp):Prop:=∀ b o, H b = some o -> ¬ κ.own b -> H' b = some o
section
variable {τ:Type} {κ:Kd τ} {S:BS} {t:τ} {H H' H'':Hp}
theorem Fr.refl:Fr κ H H:=fun _ _ e _=>e
theorem Fr.trans (a:Fr κ H H') (b:Fr κ H' H''):Fr κ H H'':=fun c o e n=>b c o (a c o e n) n
theorem Fr.of_same (a:Same H H'):Fr κ H H':=fun c o e _=>a c o e
theorem KdOk.onU (O:KdOk κ) {c:Addr} {o u:HO} (h:κ.on t H) (hc:c = κ.p ∨ c = κ.dc ∨ c = κ.dl ∨ ¬ κ.own c) (e:H c = some u) (hu:∀ xs, u ≠ .tup xs):κ.on t (upd H c o):=
 O.fr t H _ h (fun b v q ob h1 h2 h3=>by
  rw [upd_ne]
  ·exact q
  ·intro z
   subst z
   rcases hc with z | z | z | z
   ·exact h1 z
   ·exact h2 z
   ·exact h3 z
   ·exact z ob) fun b xs q=>by
  rw [upd_ne (fun z=>by rw [z, e] at q; exact hu xs (Option.some.inj q))]; exact q
theorem BookAt.same (B:BookAt κ S t H) (O:KdOk κ) (h:Same H H'):BookAt κ S t H':=by
 obtain ⟨⟨dx, h1⟩, h2, h3, h4, h5⟩:=B
 exact ⟨⟨dx, h _ _ h1⟩, h _ _ h2, h _ _ h3, O.fr t H H' h4 (fun b o e _ _ _ _=>h b o e) (fun b xs e=>h b _ e), fun b hb=>let ⟨o, e, n⟩:=h5 b hb; ⟨o, h _ _ e, n⟩⟩
theorem al_upd {own:Addr -> Prop} {H:Hp} {c:Addr} {o:HO} (h:∀ b, own b -> ∃ o, H b = some o ∧ ∀ xs, o ≠ .tup xs) (ho:∀ xs, o ≠ .tup xs):∀ b, own b -> ∃ u, upd H c o b = some u ∧ ∀ xs, u ≠ .tup xs:=fun b hb=>by
 by_cases e:b = c
 ·exact ⟨o, by rw [e, upd_same], ho⟩
 ·obtain ⟨u, h1, h2⟩:=h b hb
  exact ⟨u, by rw [upd_ne e]; exact h1, h2⟩
theorem BookAt.noTup (B:BookAt κ S t H) {l:Addr} {xs:List V} (h:H l = some (.tup xs)):¬ κ.own l:=fun z=>by
 obtain ⟨o, e, n⟩:=B.al l z
 rw [h] at e
 exact n xs (Option.some.inj e).symm
theorem BookAt.new (B:BookAt κ S t H) {l:Addr} (h:H l = none):¬ κ.own l:=fun z=>by
 obtain ⟨o, e, _⟩:=B.al l z
 rw [h] at e; cases e
theorem BookAt.pc (B:BookAt κ S t H):κ.p ≠ κ.dc:=by
 obtain ⟨⟨dx, h1⟩, h2, _⟩:=B
 exact ne_of h1 h2 (by intro z; cases z)
theorem BookAt.pl (B:BookAt κ S t H):κ.p ≠ κ.dl:=by
 obtain ⟨⟨dx, h1⟩, _, h3, _⟩:=B
 exact ne_of h1 h3 (by intro z; cases z)
theorem BookAt.fno (B:BookAt κ S t H) (O:KdOk κ) {m:Str} (h:m ∉ (["span", "part", "time", "deeds", "counts", "lasts"]:List Str)) (h2:m ∉ exNames):(fldsB S κ.dc κ.dl (κ.ex t)).lookup m = none:=f_no h (O.exn t m h2)
theorem BookAt.setOb (B:BookAt κ S t H) (O:KdOk κ) {dx:Addr} {S':BS} (e:S'.ents = S.ents):BookAt κ S' t (upd H κ.p (.ins κ.C dx (fldsB S' κ.dc κ.dl (κ.ex t)))):=by
 refine ⟨⟨dx, upd_same⟩, ?_, ?_, O.onU B.ex (.inl rfl) B.ob.choose_spec (by intro xs z; cases z), al_upd B.al (by intro xs z; cases z)⟩
 ·rw [upd_ne B.pc.symm, e]; exact B.cn
 ·rw [upd_ne B.pl.symm, e]; exact B.ls
theorem Fr.upd (O:KdOk κ) {b:Addr} (hb:κ.own b) {o:HO}:Fr κ H (upd H b o):=fun c u e n=>by rw [upd_ne (fun z=>n (by rw [z]; exact hb))]; exact e
end
structure BTxt (K:PySem.W.Frag) (C:Addr):Prop where
 cl:Cls K C
 n1:NoAttr K C "span"
 n2:NoAttr K C "part"
 n3:NoAttr K C "time"
 n4:NoAttr K C "deeds"
 n5:NoAttr K C "counts"
 n6:NoAttr K C "lasts"
section
variable {P:Program} {w:World} {K:PySem.W.Frag} {mg:Str -> Option Value} {base:Heap} {τ:Type} {C:Addr}
structure Objs (τ:Type) (C:Addr) where
 is:Kd τ -> Prop
 ok:∀ κ, is κ -> KdOk κ
 cls:∀ κ, is κ -> κ.C = C
variable (𝒪:Objs τ C)
def spTime:Sp:=fun vs H Q _=>∃ κ S t, 𝒪.is κ ∧ vs = [.ref κ.p] ∧ BookAt κ S t H ∧ Q (.int S.time) H
theorem scTime:FnScope ["self"] ["self"] (defScope sTimeNow):=⟨rfl, rfl, rfl, by decide +kernel, rfl, by decide +kernel, by decide +kernel⟩
theorem ok_time {f:Addr} (F:FunB K "time_now" "Book.time_now" sTimeNow f ["self"]) (T:BTxt K C):FnP P w K mg base 1 f ["self"] (spTime 𝒪):=by
 refine F.ok scTime (fun vs H Q E h=>?_) (fun cdv A outer s H vs Q E hr h=>?_)
 ·obtain ⟨κ, S, t, _, rfl, _⟩:=h
  rfl
 ·obtain ⟨κ, S, t, hκ, rfl, B, k⟩:=h
  obtain ⟨dx, h1⟩:=B.ob
  have hC:=𝒪.cls κ hκ
  refine ⟨_, pss_one (ps_ret (pe_fld (pv 0) rfl)), ?_⟩
  exact ⟨_, rfl, κ.p, κ.C, dx, _, _, rfl, h1, hC ▸ T.cl, hC ▸ T.n3, f_time, k⟩
def spDeeds:Sp:=fun vs H Q _=>∃ κ S t, 𝒪.is κ ∧ vs = [.ref κ.p] ∧ BookAt κ S t H ∧ Q (.int S.deeds) H
theorem scDeeds:FnScope ["self"] ["self"] (defScope sDeedsDone):=⟨rfl, rfl, rfl, by decide +kernel, rfl, by decide +kernel, by decide +kernel⟩
theorem ok_deeds {f:Addr} (F:FunB K "deeds_done" "Book.deeds_done" sDeedsDone f ["self"]) (T:BTxt K C):FnP P w K mg base 1 f ["self"] (spDeeds 𝒪):=by
 refine F.ok scDeeds (fun vs H Q E h=>?_) (fun cdv A outer s H vs Q E hr h=>?_)
 ·obtain ⟨κ, S, t, _, rfl, _⟩:=h
  rfl
 ·obtain ⟨κ, S, t, hκ, rfl, B, k⟩:=h
  obtain ⟨dx, h1⟩:=B.ob
  have hC:=𝒪.cls κ hκ
  refine ⟨_, pss_one (ps_ret (pe_fld (pv 0) rfl)), ?_⟩
  exact ⟨_, rfl, κ.p, κ.C, dx, _, _, rfl, h1, hC ▸ T.cl, hC ▸ T.n4, f_deeds, k⟩
def cntE (S:BS) (n:Str):Int:=((findE S.ents n).map (·.2.1)).getD 0
def lstE (S:BS) (n:Str):Option Int:=(findE S.ents n).map (·.2.2)
def optV:Option Int -> V
 | some i=>.int i
 | none=>.non
def spCountOf:Sp:=fun vs H Q _=>∃ κ S t n, 𝒪.is κ ∧ vs = [.ref κ.p, .str n] ∧ GoodName n ∧ BookAt κ S t H ∧ ∀ H', Same H H' -> Q (.int (cntE S n)) H'
theorem scCountOf:FnScope ["self", "name"] ["self", "name"] (defScope sCountOf):=⟨rfl, rfl, rfl, by decide +kernel, rfl, by decide +kernel, by decide +kernel⟩
theorem ok_countOf {f g:Addr} (F:FunB K "count_of" "Book.count_of" sCountOf f ["self", "name"]) (T:BTxt K C) (G:FnP P w K mg base 2 g ["name"] spCkName) (hg:mg "check_name" = some (.ref g)):FnP P w K mg base 4 f ["self", "name"] (spCountOf 𝒪):=by
 refine F.ok scCountOf (fun vs H Q E h=>?_) (fun cdv A outer s H vs Q E hr h=>?_)
 ·obtain ⟨κ, S, t, n, _, rfl, _⟩:=h
  rfl
 ·obtain ⟨κ, S, t, n, hκ, rfl, gn, B, k⟩:=h
  have hC:=𝒪.cls κ hκ
  refine ⟨_, pss_cons (ps_expr (pe_callP G (hr.mono (by decide)) hg (pa_cons (pv 1) pa_nil))) (pss_one (ps_ret (pe_dget2 (hu_of hr) (pe_fld (pv 0) rfl) (pv 1) pe_int ⟨rfl, rfl, rfl, rfl⟩))), ?_⟩
  refine ⟨_, rfl, n, rfl, gn, fun H' S'=>?_⟩
  have B':=B.same (𝒪.ok κ hκ) S'
  obtain ⟨dx, h1⟩:=B'.ob
  refine ⟨_, rfl, κ.p, κ.C, dx, _, _, rfl, h1, hC ▸ T.cl, hC ▸ T.n5, f_counts, κ.dc, rfl, .inl ⟨_, .inl B'.cn⟩, _, rfl, _, DGet.k (k:=Sum.inr n) B'.cn, ?_⟩
  have e:(valV (tabK mC S.ents) (Sum.inr n:Key)).getD (.int 0) = .int (cntE S n):=by
   rw [valV_tab]
   unfold cntE
   cases findE S.ents n <;> rfl
  show Q ((valV (tabK mC S.ents) (Sum.inr n:Key)).getD (.int 0)) H'
  rw [e]
  exact k H' S'
def spLastOf:Sp:=fun vs H Q _=>∃ κ S t n, 𝒪.is κ ∧ vs = [.ref κ.p, .str n] ∧ GoodName n ∧ BookAt κ S t H ∧ ∀ H', Same H H' -> Q (optV (lstE S n)) H'
theorem scLastOf:FnScope ["self", "name"] ["self", "name"] (defScope sLastOf):=⟨rfl, rfl, rfl, by decide +kernel, rfl, by decide +kernel, by decide +kernel⟩
theorem ok_lastOf {f g:Addr} (F:FunB K "last_of" "Book.last_of" sLastOf f ["self", "name"]) (T:BTxt K C) (G:FnP P w K mg base 2 g ["name"] spCkName) (hg:mg "check_name" = some (.ref g)):FnP P w K mg base 4 f ["self", "name"] (spLastOf 𝒪):=by
 refine F.ok scLastOf (fun vs H Q E h=>?_) (fun cdv A outer s H vs Q E hr h=>?_)
 ·obtain ⟨κ, S, t, n, _, rfl, _⟩:=h
  rfl
 ·obtain ⟨κ, S, t, n, hκ, rfl, gn, B, k⟩:=h
  have hC:=𝒪.cls κ hκ
  refine ⟨_, pss_cons (ps_expr (pe_callP G (hr.mono (by decide)) hg (pa_cons (pv 1) pa_nil))) (pss_one (ps_ret (pe_dget1 (hu_of hr) (pe_fld (pv 0) rfl) (pv 1) ⟨rfl, rfl, rfl, rfl⟩))), ?_⟩
  refine ⟨_, rfl, n, rfl, gn, fun H' S'=>?_⟩
  have B':=B.same (𝒪.ok κ hκ) S'
  obtain ⟨dx, h1⟩:=B'.ob
  refine ⟨_, rfl, κ.p, κ.C, dx, _, _, rfl, h1, hC ▸ T.cl, hC ▸ T.n6, f_lasts, κ.dl, rfl, .inl ⟨_, .inl B'.ls⟩, _, rfl, _, DGet.k (k:=Sum.inr n) B'.ls, ?_⟩
  have e:(valV (tabK mL S.ents) (Sum.inr n:Key)).getD .non = optV (lstE S n):=by
   rw [valV_tab]
   unfold lstE
   cases findE S.ents n <;> rfl
  show Q ((valV (tabK mL S.ents) (Sum.inr n:Key)).getD .non) H'
  rw [e]
  exact k H' S'
structure BookR {τ:Type} (κ:Kd τ) (S:BS) (t:τ) (H:Hp):Prop where
 ob:∃ dx, H κ.p = some (.ins κ.C dx (fldsB S κ.dc κ.dl (κ.ex t)))
 cn:H κ.dc = some (.dK (tabK mC S.ents))
 ls:H κ.dl = some (.dK (tabK mL S.ents))
theorem BookAt.r {τ:Type} {κ:Kd τ} {S:BS} {t:τ} {H:Hp} (B:BookAt κ S t H):BookR κ S t H:=⟨B.ob, B.cn, B.ls⟩
theorem BookR.same {τ:Type} {κ:Kd τ} {S:BS} {t:τ} {H H':Hp} (B:BookR κ S t H) (h:Same H H'):BookR κ S t H':=let ⟨⟨dx, h1⟩, h2, h3⟩:=B; ⟨⟨dx, h _ _ h1⟩, h _ _ h2, h _ _ h3⟩
def spStrength:Sp:=fun vs H Q _=>∃ κ S t e, 𝒪.is κ ∧ vs = [.ref κ.p, .str e.1] ∧ BookR κ S t H ∧ findE S.ents e.1 = some e ∧ ∀ q, H q = none -> Q (.ref q) (upd H q (.tup [.int e.2.1, .int e.2.2]))
theorem scStrength:FnScope ["self", "name"] ["self", "name"] (defScope sStrength):=⟨rfl, rfl, rfl, by decide +kernel, rfl, by decide +kernel, by decide +kernel⟩
theorem ok_strength {f:Addr} (F:FunB K "strength" "Book.strength" sStrength f ["self", "name"]) (T:BTxt K C):FnP P w K mg base 1 f ["self", "name"] (spStrength 𝒪):=by
 refine F.ok scStrength (fun vs H Q E h=>?_) (fun cdv A outer s H vs Q E hr h=>?_)
 ·obtain ⟨κ, S, t, e, _, rfl, _⟩:=h
  rfl
 ·obtain ⟨κ, S, t, e, hκ, rfl, B, he, k⟩:=h
  have hC:=𝒪.cls κ hκ
  obtain ⟨dx, h1⟩:=B.ob
  have hu:=hu_of hr
  refine ⟨_, pss_one (ps_ret (pe_tup (pa_cons (pe_dget hu (pe_fld (pv 0) rfl) (pv 1) (fun _ _=>rfl)) (pa_cons (pe_dget hu (pe_fld (pv 0) rfl) (pv 1) (fun _ _=>rfl)) pa_nil)))), ?_⟩
  have g1:DGet H κ.dc (.str e.1) (some (.int e.2.1)):=by
   have:=DGet.k (k:=Sum.inr e.1) B.cn
   rw [valV_tab, he] at this
   exact this
  have g2:DGet H κ.dl (.str e.1) (some (.int e.2.2)):=by
   have:=DGet.k (k:=Sum.inr e.1) B.ls
   rw [valV_tab, he] at this
   exact this
  refine ⟨_, rfl, κ.p, κ.C, dx, _, _, rfl, h1, hC ▸ T.cl, hC ▸ T.n5, f_counts, _, rfl, κ.dc, _, rfl, g1, ?_⟩
  refine ⟨_, rfl, κ.p, κ.C, dx, _, _, rfl, h1, hC ▸ T.cl, hC ▸ T.n6, f_lasts, _, rfl, κ.dl, _, rfl, g2, (by show 2 ≤ sizeLine; decide), fun q hq=>k q hq⟩
def keyOf (S:BS) (n:Str):List Int:=match findE S.ents n with
 | some e=>[e.2.1, e.2.2]
 | none=>[]
def Weak (S:BS) (ns ys:List Str):Prop:=ys.Perm ns ∧ ys.Pairwise fun a b=>HT.lexLt (keyOf S a) (keyOf S b) = true
structure Sortable (S:BS) (ns:List Str):Prop where
 there:∀ n ∈ ns, ∃ e, findE S.ents n = some e
 few:ns.length < 64
 nd:ns.Nodup
 lasts:∀ a ∈ S.ents, ∀ b ∈ S.ents, a.2.2 = b.2.2 -> a.1 = b.1
theorem Sortable.keys {S:BS} {ns:List Str} (h:Sortable S ns):(ns.map (keyOf S)).Pairwise (· ≠ ·):=by
 rw [List.pairwise_map]
 refine List.Pairwise.imp_of_mem ?_ h.nd
 intro a b ha hb hne he
 obtain ⟨ea, h1⟩:=h.there a ha
 obtain ⟨eb, h2⟩:=h.there b hb
 unfold keyOf at he
 rw [h1, h2] at he
 have hl:ea.2.2 = eb.2.2:=by
  have:=(List.cons.inj (List.cons.inj he).2).1
  exact this
 have:=h.lasts ea (findE_mem h1) eb (findE_mem h2) hl
 rw [(findE_some h1).1, (findE_some h2).1] at this
 exact hne this
theorem weak_of {S:BS} {ns:List Str} {qs:List (V × List Int)} (h:SortedBy (ns.map fun n=>(V.str n, keyOf S n)) qs):∃ ys, Weak S ns ys ∧ qs.map (·.1) = ys.map V.str:=by
 have key:∀ (l:List (V × List Int)), (∀ q ∈ l, ∃ n ∈ ns, q = (V.str n, keyOf S n)) -> ∃ ys:List Str, l = ys.map fun n=>(V.str n, keyOf S n):=by
  intro l
  induction l with
  | nil=>intro _; exact ⟨[], rfl⟩
  | cons q r ih=>
    intro hq
    obtain ⟨n, _, e⟩:=hq q List.mem_cons_self
    obtain ⟨ys, e2⟩:=ih fun z hz=>hq z (List.mem_cons_of_mem _ hz)
    exact ⟨n :: ys, by rw [e, e2]; rfl⟩
 obtain ⟨ys, rfl⟩:=key qs fun q hq=>by
  obtain ⟨n, hn, e⟩:=List.mem_map.mp (h.1.mem_iff.mp hq)
  exact ⟨n, hn, e.symm⟩
 refine ⟨ys, ⟨?_, ?_⟩, ?_⟩
 ·have:=h.1.map (fun q:V × List Int=>match q.1 with | .str n=>n | _=>("":Str))
  rw [List.map_map, List.map_map] at this
  simpa [Function.comp_def] using this
 ·have:=h.2
  rw [List.pairwise_map] at this
  exact this
 ·rw [List.map_map]; rfl
def spInOrder (K:PySem.W.Frag):Sp:=fun vs H Q _=>∃ κ S t x ns, 𝒪.is κ ∧ vs = [.ref κ.p, x] ∧ BookAt κ S t H ∧ Coll K H x (ns.map V.str) ∧ Sortable S ns ∧ ∀ l H' ys, H l = none -> Same H H' -> H' l = some (.lst (ys.map V.str)) -> Weak S ns ys -> Q (.ref l) H'
theorem scInOrder:FnScope ["self", "names"] ["self", "names"] (defScope sInOrder):=⟨rfl, rfl, rfl, by decide +kernel, rfl, by decide +kernel, by decide +kernel⟩
theorem coll_same {K:PySem.W.Frag} {H H':Hp} {x:V} {xs:List V} (h:Same H H') (c:Coll K H x xs):Coll K H' x xs:=by
 obtain ⟨p, rfl, c⟩:=c
 refine ⟨p, rfl, ?_⟩
 rcases c with c | ⟨kvs, c, e⟩
 ·exact .inl (h.seq c)
 ·refine .inr ⟨kvs, ?_, e⟩
  rcases c with c | ⟨o, c⟩
  ·exact .inl (h _ _ c)
  ·exact .inr ⟨o, h _ _ c⟩
theorem ok_inOrder {f g:Addr} (F:FunB K "in_order" "Book.in_order" sInOrder f ["self", "names"]) (T:BTxt K C) (B:Blt mg) (G:FnP P w K mg base 1 g ["self", "name"] (spStrength 𝒪)) (M:MethV K C "strength" g):FnP P w K mg base 6 f ["self", "names"] (spInOrder 𝒪 K):=by
 obtain ⟨fd, G, hb, kp⟩:=G
 refine F.ok scInOrder (fun vs H Q E h=>?_) (fun cdv A outer s H vs Q E hr h=>?_)
 ·obtain ⟨κ, S, t, x, ns, _, rfl, _⟩:=h
  rfl
 ·obtain ⟨κ, S, t, x, ns, hκ, rfl, B1, hc, hs, k⟩:=h
  have hC:=𝒪.cls κ hκ
  have O:=𝒪.ok κ hκ
  obtain ⟨dx, h1⟩:=B1.ob
  rw [hC] at h1
  refine ⟨_, pss_one (ps_ret (pe_sortK rfl G (hr.mono (by decide)) hb rfl B.sorted (pv 1) (pe_bound (pv 0) T.cl M rfl))), ?_⟩
  refine ⟨_, rfl, _, rfl, κ.p, dx, _, rfl, h1, B1.fno O (by decide +kernel) (by decide +kernel), fun q hq=>?_⟩
  have S1:Same H (upd H q (.met g κ.p)):=Same.upd hq
  refine ⟨q, κ.p, ns.map fun n=>(V.str n, keyOf S n), 2, rfl, upd_same, ?_, by rw [List.length_map]; exact hs.few, by decide, ?_, ?_, ?_, ?_⟩
  ·rw [List.map_map]
   exact coll_same S1 hc
  ·intro z hz
   obtain ⟨n, hn, rfl⟩:=List.mem_map.mp hz
   obtain ⟨e, he⟩:=hs.there n hn
   show (keyOf S n).length = 2
   unfold keyOf
   rw [he]
   rfl
  ·rw [List.map_map]
   exact hs.keys
  ·intro z hz H' Q' SS hq'
   obtain ⟨n, hn, rfl⟩:=List.mem_map.mp hz
   obtain ⟨e, he⟩:=hs.there n hn
   have en:e.1 = n:=(findE_some he).1
   subst en
   refine ⟨κ, S, t, e, hκ, rfl, ((B1.same O S1).same O SS).r, he, fun q2 hq2=>?_⟩
   have ek:keyOf S e.1 = [e.2.1, e.2.2]:=by unfold keyOf; rw [he]
   have:=hq' q2 hq2
   rw [show ((V.str e.1, keyOf S e.1):V × List Int).2 = [e.2.1, e.2.2] from ek] at this
   exact this
  ·intro qs D H' sb hD SS hl
   obtain ⟨ys, wk, eq⟩:=weak_of sb
   rw [eq] at hl
   refine k D H' ys ?_ (S1.trans SS) hl wk
   cases e:H D with
   | none=>rfl
   | some o=>rw [S1 _ _ e] at hD; cases hD
end
end Lk

namespace Lk
open PySem L2
structure Fit (S:BS):Prop where
 sp1:1 ≤ S.span
 sp2:S.span ≤ 10 ^ 20
 pt1:2 ≤ S.part
 pt2:S.part ≤ 10 ^ 30
 t0:0 ≤ S.time
 nd:(namesOf S.ents).Nodup
 cs:∀ e ∈ S.ents, 0 < e.2.1 ∧ e.2.1 ≤ 10 ^ 60
 inj:∀ a ∈ S.ents, ∀ b ∈ S.ents, a.2.2 = b.2.2 -> a.1 = b.1
 few:S.ents.length < 64
def stayE (p t:Int) (e:Str × Int × Int):Bool:=decide (0 < agedI e.2.1 p t)
def oldE (p t:Int) (e:Str × Int × Int):Str × Int × Int:=(e.1, agedI e.2.1 p t, e.2.2)
def ageE (es:List (Str × Int × Int)) (p t:Int):List (Str × Int × Int):=(es.filter (stayE p t)).map (oldE p t)
def goneE (es:List (Str × Int × Int)) (p t:Int):List (Str × Int × Int):=es.filter fun e=>!stayE p t e
theorem ageE_append (a b:List (Str × Int × Int)) (p t:Int):ageE (a ++ b) p t = ageE a p t ++ ageE b p t:=by unfold ageE; rw [List.filter_append, List.map_append]
theorem goneE_append (a b:List (Str × Int × Int)) (p t:Int):goneE (a ++ b) p t = goneE a p t ++ goneE b p t:=by unfold goneE; rw [List.filter_append]
theorem ageE_names {es:List (Str × Int × Int)} {p t:Int} {n:Str} (h:n ∈ namesOf (ageE es p t)):n ∈ namesOf es:=by
 obtain ⟨e, he, rfl⟩:=List.mem_map.mp h
 obtain ⟨x, hx, rfl⟩:=List.mem_map.mp he
 exact List.mem_map.mpr ⟨x, (List.mem_filter.mp hx).1, rfl⟩
def ageS (S:BS) (times:Int):BS:={ S with ents:=ageE S.ents S.part times }
def timesOf (S:BS) (steps:Int):Int:=(S.time + steps) / S.span - S.time / S.span
def passS (S:BS) (steps:Int):BS:={ S with time:=S.time + steps, ents:=if 0 < timesOf S steps then ageE S.ents S.part (timesOf S steps) else S.ents }
def FadeOrder (S:BS) (times:Int) (qs:List (Int × Str)):Prop:=qs.Perm ((goneE S.ents S.part times).map fun e=>(e.2.2, e.1)) ∧ qs.Pairwise fun a b=>a.1 < b.1
def growE (es:List (Str × Int × Int)) (n:Str) (w d:Int):List (Str × Int × Int):=
 match findE es n with
 | some _=>es.map fun e=>if e.1 = n then (e.1, e.2.1 + w, d) else e
 | none=>es ++ [(n, w, d)]
theorem growE_none {es:List (Str × Int × Int)} {n:Str} {w d:Int} (h:findE es n = none):growE es n w d = es ++ [(n, w, d)]:=by unfold growE; rw [h]
theorem growE_mid {a b:List (Str × Int × Int)} {e:Str × Int × Int} {w d:Int} (ha:e.1 ∉ namesOf a) (hb:e.1 ∉ namesOf b):growE (a ++ e :: b) e.1 w d = a ++ (e.1, e.2.1 + w, d) :: b:=by
 have other:∀ {l:List (Str × Int × Int)}, e.1 ∉ namesOf l -> (l.map fun x=>if x.1 = e.1 then (x.1, x.2.1 + w, d) else x) = l:=by
  intro l
  induction l with
  | nil=>intro _; rfl
  | cons x r ih=>
    intro h
    rw [List.map_cons, if_neg (fun z=>h (by rw [← z]; exact List.mem_cons_self)), ih fun z=>h (List.mem_cons_of_mem _ z)]
 unfold growE
 rw [findE_mid ha]
 show List.map _ (a ++ e :: b) = _
 rw [List.map_append, other ha, List.map_cons, if_pos rfl, other hb]
theorem nodup_mid {a b:List (Str × Int × Int)} {e:Str × Int × Int} (h:(namesOf (a ++ e :: b)).Nodup):e.1 ∉ namesOf a ∧ e.1 ∉ namesOf b:=by
 unfold namesOf at h
 rw [List.map_append, List.map_cons, List.nodup_append] at h
 obtain ⟨_, h2, h3⟩:=h
 exact ⟨fun z=>h3 _ z _ List.mem_cons_self rfl, (List.nodup_cons.mp h2).1⟩
section
variable {P:Program} {w:World} {K:PySem.W.Frag} {mg:Str -> Option Value} {base:Heap} {τ:Type} {C:Addr} (𝒪:Objs τ C)
theorem line64 {n:Nat} (h:n < 64):n < sizeLine:=Nat.lt_of_lt_of_le h (by decide)
def spGrow:Sp:=fun vs H Q _=>∃ κ S t n w, 𝒪.is κ ∧ vs = [.ref κ.p, .str n, .int w] ∧ BookAt κ S t H ∧ (namesOf S.ents).Nodup ∧ S.ents.length < 64 ∧ ∀ H', BookAt κ { S with ents:=growE S.ents n w S.deeds } t H' -> Fr κ H H' -> Q .non H'
theorem scGrow:FnScope ["self", "name", "weight"] ["self", "name", "weight"] (defScope sGrow):=⟨rfl, rfl, rfl, by decide +kernel, rfl, by decide +kernel, by decide +kernel⟩
theorem ok_grow {f:Addr} (F:FunB K "grow" "Book.grow" sGrow f ["self", "name", "weight"]) (T:BTxt K C):FnP P w K mg base 1 f ["self", "name", "weight"] (spGrow 𝒪):=by
 refine F.ok scGrow (fun vs H Q E h=>?_) (fun cdv A outer s H vs Q E hr h=>?_)
 ·obtain ⟨κ, S, t, n, w, _, rfl, _⟩:=h
  rfl
 ·obtain ⟨κ, S, t, n, w, hκ, rfl, B, hnd, hfew, k⟩:=h
  have hC:=𝒪.cls κ hκ
  have O:=𝒪.ok κ hκ
  obtain ⟨dx, h1⟩:=B.ob
  rw [hC] at h1
  have hu:=hu_of hr
  have npc:=B.pc
  have npl:=B.pl
  refine ⟨_, pss_cons (ps_dput hu (pe_fld (pv 0) rfl) (pv 1) (pe_op op_add (pe_dget2 hu (pe_fld (pv 0) rfl) (pv 1) pe_int ⟨rfl, rfl, rfl, rfl⟩) (pv 2)) rfl)
   (pss_one (ps_dput hu (pe_fld (pv 0) rfl) (pv 1) (pe_fld (pv 0) rfl) rfl)), ?_⟩
  have ev:(valV (tabK mC S.ents) (Sum.inr n:Key)).getD (.int 0) = .int (cntE S n):=by
   rw [valV_tab]
   unfold cntE
   cases findE S.ents n <;> rfl
  refine ⟨_, rfl, κ.p, C, dx, _, _, rfl, h1, T.cl, T.n5, f_counts, κ.dc, rfl, .inl ⟨_, .inl B.cn⟩, _, rfl, _, DGet.k (k:=Sum.inr n) B.cn, _, rfl, cntE S n, w, ev, rfl, ?_⟩
  refine ⟨_, rfl, κ.p, C, dx, _, _, rfl, h1, T.cl, T.n5, f_counts, _, rfl, κ.dc, _, rfl, DPut.k (k:=Sum.inr n) B.cn (by rw [tabK_length]; exact line64 hfew), ?_⟩
  have h1':∀ o, (upd H κ.dc o) κ.p = some (.ins C dx (fldsB S κ.dc κ.dl (κ.ex t))):=fun o=>by rw [upd_ne npc]; exact h1
  have hl':∀ o, (upd H κ.dc o) κ.dl = some (.dK (tabK mL S.ents)):=fun o=>by rw [upd_ne O.ne.symm]; exact B.ls
  refine ⟨_, rfl, κ.p, C, dx, _, _, rfl, h1' _, T.cl, T.n4, f_deeds, _, rfl, κ.p, C, dx, _, _, rfl, h1' _, T.cl, T.n6, f_lasts, _, rfl, κ.dl, _, rfl, DPut.k (k:=Sum.inr n) (hl' _) (by rw [tabK_length]; exact line64 hfew), ?_⟩
  have e1:putK (tabK mC S.ents) (Sum.inr n:Key) (.int (cntE S n + w)) = tabK mC (growE S.ents n w S.deeds) ∧ putK (tabK mL S.ents) (Sum.inr n:Key) (.int S.deeds) = tabK mL (growE S.ents n w S.deeds):=by
   cases e:findE S.ents n with
   | none=>
     have v1:valV (tabK mC S.ents) (Sum.inr n:Key) = none:=by rw [valV_tab, e]; rfl
     have v2:valV (tabK mL S.ents) (Sum.inr n:Key) = none:=by rw [valV_tab, e]; rfl
     have c0:cntE S n = 0:=by unfold cntE; rw [e]; rfl
     rw [growE_none e, putK_new _ v1, putK_new _ v2, tabK_append, tabK_append, c0, Int.zero_add]
     exact ⟨rfl, rfl⟩
   | some x=>
     have c0:cntE S n = x.2.1:=by unfold cntE; rw [e]; rfl
     obtain ⟨en, a, b, es, ha⟩:=findE_some e
     subst en
     rw [es] at hnd
     obtain ⟨ha, hb⟩:=nodup_mid hnd
     rw [c0, es, growE_mid ha hb, putK_mid ha hb, putK_mid ha hb, tabK_append, tabK_append]
     exact ⟨rfl, rfl⟩
  refine k _ ⟨⟨dx, ?_⟩, ?_, ?_, ?_, al_upd (al_upd B.al (by intro xs z; cases z)) (by intro xs z; cases z)⟩ ?_
  ·rw [upd_ne npl, hC]; exact h1' _
  ·rw [upd_ne O.ne, upd_same]; exact congrArg (fun l=>some (HO.dK l)) e1.1
  ·rw [upd_same]; exact congrArg (fun l=>some (HO.dK l)) e1.2
  ·exact O.onU (O.onU B.ex (.inr (.inl rfl)) B.cn (by intro xs z; cases z)) (.inr (.inr (.inl rfl))) (hl' _) (by intro xs z; cases z)
  ·exact fun b o e n=>by rw [upd_ne (fun z=>n (by rw [z]; exact O.ol)), upd_ne (fun z=>n (by rw [z]; exact O.oc))]; exact e
variable (fadeF:Int -> Str -> Int -> τ -> τ)
def spFade:Sp:=fun vs H Q _=>∃ κ S t n l, 𝒪.is κ ∧ vs = [.ref κ.p, .str n, .int l] ∧ BookAt κ S t H ∧ ∀ H', BookAt κ S (fadeF S.deeds n l t) H' -> Fr κ H H' -> Q .non H'
def foldF (d:Int) (qs:List (Int × Str)) (t:τ):τ:=qs.foldl (fun t q=>fadeF d q.2 q.1 t) t
def spAgeCounts:Sp:=fun vs H Q _=>∃ κ S t times, 𝒪.is κ ∧ vs = [.ref κ.p, .int times] ∧ BookAt κ S t H ∧ Fit S ∧ 0 < times ∧ ∀ qs H', FadeOrder S times qs -> BookAt κ (ageS S times) (foldF fadeF S.deeds qs t) H' -> Fr κ H H' -> Q .non H'
theorem scAgeCounts:FnScope ["self", "times", "faded", "name", "count", "last"] ["self", "times"] (defScope sAgeCounts):=⟨rfl, rfl, rfl, by decide +kernel, rfl, by decide +kernel, by decide +kernel⟩
def midE (es:List (Str × Int × Int)) (p t:Int) (i:Nat):List (Str × Int × Int):=ageE (es.take i) p t ++ es.drop i
theorem midE_at {es:List (Str × Int × Int)} {p t:Int} {i:Nat} {e:Str × Int × Int} (h:es[i]? = some e):midE es p t i = ageE (es.take i) p t ++ e :: es.drop (i + 1):=by
 obtain ⟨hi, rfl⟩:=List.getElem?_eq_some_iff.mp h
 unfold midE
 rw [List.drop_eq_getElem_cons hi]
theorem take_at {α:Type} {es:List α} {i:Nat} {e:α} (h:es[i]? = some e):es.take (i + 1) = es.take i ++ [e]:=by
 rw [List.take_add_one, h]; rfl
theorem midE_stay {es:List (Str × Int × Int)} {p t:Int} {i:Nat} {e:Str × Int × Int} (h:es[i]? = some e) (hs:0 < agedI e.2.1 p t):midE es p t (i + 1) = ageE (es.take i) p t ++ (oldE p t e) :: es.drop (i + 1):=by
 unfold midE
 rw [take_at h, ageE_append]
 have:ageE [e] p t = [oldE p t e]:=by
  unfold ageE
  rw [List.filter_cons, if_pos (show stayE p t e = true from decide_eq_true hs)]
  rfl
 rw [this, List.append_assoc]
 rfl
theorem midE_go {es:List (Str × Int × Int)} {p t:Int} {i:Nat} {e:Str × Int × Int} (h:es[i]? = some e) (hs:¬ 0 < agedI e.2.1 p t):midE es p t (i + 1) = ageE (es.take i) p t ++ es.drop (i + 1) ∧ goneE (es.take (i + 1)) p t = goneE (es.take i) p t ++ [e]:=by
 have hf:stayE p t e = false:=decide_eq_false hs
 unfold midE
 rw [take_at h, ageE_append, goneE_append]
 have h1:ageE [e] p t = []:=by
  unfold ageE
  rw [List.filter_cons, if_neg (by rw [hf]; simp)]
  rfl
 have h2:goneE [e] p t = [e]:=by
  unfold goneE
  rw [List.filter_cons, if_pos (by rw [hf]; rfl)]
  rfl
 rw [h1, h2, List.append_nil]
 exact ⟨rfl, rfl⟩
theorem gone_stay {es:List (Str × Int × Int)} {p t:Int} {i:Nat} {e:Str × Int × Int} (h:es[i]? = some e) (hs:0 < agedI e.2.1 p t):goneE (es.take (i + 1)) p t = goneE (es.take i) p t:=by
 rw [take_at h, goneE_append]
 have h2:goneE [e] p t = []:=by
  unfold goneE
  rw [List.filter_cons, if_neg (by rw [show stayE p t e = true from decide_eq_true hs]; simp)]
  rfl
 rw [h2, List.append_nil]
theorem mid_apart {es:List (Str × Int × Int)} {p t:Int} {i:Nat} {e:Str × Int × Int} (hnd:(namesOf es).Nodup) (h:es[i]? = some e):e.1 ∉ namesOf (ageE (es.take i) p t) ∧ e.1 ∉ namesOf (es.drop (i + 1)):=by
 obtain ⟨hi, rfl⟩:=List.getElem?_eq_some_iff.mp h
 have e1:es = es.take i ++ es[i] :: es.drop (i + 1):=by
  conv=>lhs; rw [← List.take_append_drop i es, List.drop_eq_getElem_cons hi]
 rw [e1] at hnd
 obtain ⟨h1, h2⟩:=nodup_mid hnd
 refine ⟨fun z=>h1 ?_, ?_⟩
 ·simpa using ageE_names z
 ·simpa using h2
end
end Lk

namespace Lk
open PySem L2
section
variable {P:Program} {w:World} {K:PySem.W.Frag} {mg:Str -> Option Value} {base:Heap} {τ:Type} {C:Addr} (𝒪:Objs τ C) (fadeF:Int -> Str -> Int -> τ -> τ)
structure Mid (κ:Kd τ) (S:BS) (t:τ) (H H':Hp) (times:Int) (fl ls:Addr) (i:Nat) (ts:List (Addr × Str × Int × Int)):Prop where
 hl:H' ls = some (.lst (S.ents.map fun e=>.str e.1))
 hf:H' fl = some (.lst (ts.map fun q=>.ref q.1))
 ht:∀ q ∈ ts, H' q.1 = some (.tup [.int q.2.2.2, .str q.2.1])
 hg:ts.map (·.2) = goneE (S.ents.take i) S.part times
 bk:BookAt κ { S with ents:=midE S.ents S.part times i } t H'
 fr:Fr κ H H'
theorem perm_map_back {α β:Type} (g:α -> β):∀ {m:List β} {l:List α}, m.Perm (l.map g) -> ∃ k:List α, k.Perm l ∧ m = k.map g
 | [], l, h=>by
   have:=h.length_eq
   rw [List.length_map] at this
   exact ⟨[], by rw [List.length_eq_zero_iff.mp this.symm], rfl⟩
 | x :: r, l, h=>by
   obtain ⟨a, ha, rfl⟩:=List.mem_map.mp (h.mem_iff.mp List.mem_cons_self)
   obtain ⟨s1, s2, rfl⟩:=List.append_of_mem ha
   have h2:(g a :: r).Perm (g a :: (s1 ++ s2).map g):=by
    refine h.trans ?_
    rw [List.map_append, List.map_cons, List.map_append]
    exact List.perm_middle
   obtain ⟨k, hk, rfl⟩:=perm_map_back g h2.cons_inv
   exact ⟨a :: k, (hk.cons a).trans List.perm_middle.symm, rfl⟩
theorem fade_order {S:BS} {times:Int} {ts:List (Addr × Str × Int × Int)} (hg:ts.map (·.2) = goneE S.ents S.part times) {zs qs:List (V × List Int)} (hz:zs = ts.map fun q=>(V.ref q.1, [q.2.2.2])) (h:SortedBy zs qs) :
  ∃ us:List (Addr × Str × Int × Int), us.Perm ts ∧ qs = us.map (fun q=>(V.ref q.1, [q.2.2.2])) ∧ FadeOrder S times (us.map fun q=>(q.2.2.2, q.2.1)):=by
 subst hz
 obtain ⟨us, hp, rfl⟩:∃ us:List (Addr × Str × Int × Int), us.Perm ts ∧ qs = us.map (fun q=>(V.ref q.1, [q.2.2.2])):=perm_map_back _ h.1
 refine ⟨us, hp, rfl, ?_, ?_⟩
 ·rw [← hg, List.map_map]
  exact hp.map _
 ·have:=h.2
  rw [List.pairwise_map] at this ⊢
  refine this.imp fun {a b} hab=>?_
  rw [HT.lexLt_cons] at hab
  by_cases e:a.2.2.2 = b.2.2.2
  ·rw [if_pos e, HT.lexLt_nil_nil] at hab; cases hab
  ·rw [if_neg e] at hab; exact of_decide_eq_true hab
theorem ok_ageCounts {f ga gf:Addr} (F:FunB K "age_counts" "Book.age_counts" sAgeCounts f ["self", "times"]) (T:BTxt K C) (B:Blt mg) (Ga:FnP P w K mg base 1 ga ["count", "part", "times"] spAged) (hga:mg "aged" = some (.ref ga)) (Gf:FnP P w K mg base 8 gf ["self", "name", "last"] (spFade 𝒪 fadeF)) (Mf:Meth K C "fade" gf) :
  FnP P w K mg base 12 f ["self", "times"] (spAgeCounts 𝒪 fadeF):=by
 refine F.ok scAgeCounts (fun vs H Q E h=>?_) (fun cdv A outer s H vs Q E hr h=>?_)
 ·obtain ⟨κ, S, t, times, _, rfl, _⟩:=h
  rfl
 ·obtain ⟨κ, S, t, times, hκ, rfl, B0, fit, htimes, k⟩:=h
  have hC:=𝒪.cls κ hκ
  have O:=𝒪.ok κ hκ
  have hu:=hu_of hr
  refine ⟨_, pss_cons (ps_set (i:=2) scAgeCounts.nd rfl (Or.inl rfl) (pe_lst pa_nil))
   (pss_cons (ps_for PassesOwn.never rfl (pi_list (pe_callTy (call_listD rfl) rfl B.list PyProof.Rows.boot_list (pa_cons (pe_fld (pv 0) rfl) pa_nil))) (pg_name (i:=3) scAgeCounts.nd rfl (Or.inl rfl))
     (pss_cons (ps_set (i:=4) scAgeCounts.nd rfl (Or.inl rfl) (pe_callP Ga (hr.mono (by decide)) hga (pa_cons (pe_dget hu (pe_fld (pv 0) rfl) (pv 3) (fun _ _=>rfl)) (pa_cons (pe_fld (pv 0) rfl) (pa_cons (pv 1) pa_nil)))))
     (pss_one (ps_if (pt_cmpR op_gt (pv 4) pe_int (nomark _)) (pss_one (ps_dput hu (pe_fld (pv 0) rfl) (pv 3) (pv 4) rfl))
       (pss_cons (ps_expr (pe_bm PySem.F.plainAttrs_list PySem.F.slot_list_append PySem.F.type_list_append mt_append (pv 2) (pa_cons (pe_tup (pa_cons (pe_dget hu (pe_fld (pv 0) rfl) (pv 3) (fun _ _=>rfl)) (pa_cons (pv 3) pa_nil))) pa_nil)))
       (pss_cons (ps_expr (pe_dpop1 (pe_fld (pv 0) rfl) (pv 3) ⟨rfl, rfl, rfl, rfl⟩)) (pss_one (ps_expr (pe_dpop1 (pe_fld (pv 0) rfl) (pv 3) ⟨rfl, rfl, rfl, rfl⟩)))))))))
   (pss_one (ps_for PassesOwn.never rfl (pi_list (pe_callB (call_sorted rfl) rfl B.sorted PyProof.Rows.boot_sorted (pa_cons (pv 2) pa_nil))) (pg_tup rfl (pgs_cons (pg_name (i:=5) scAgeCounts.nd rfl (Or.inl rfl)) (pgs_cons (pg_name (i:=3) scAgeCounts.nd rfl (Or.inl rfl)) pgs_nil)))
     (pss_one (ps_expr (pe_methP (pv 0) T.cl Mf Gf (hr.mono (by decide)) (pa_cons (pv 3) (pa_cons (pv 5) pa_nil)))))))), ?_⟩
  refine ⟨by decide, fun fl hfl=>?_⟩
  have Sm1:Same H (upd H fl (.lst [])):=Same.upd hfl
  have B1:=B0.same O Sm1
  obtain ⟨dx, h1⟩:=B1.ob
  rw [hC] at h1
  refine ⟨_, rfl, κ.p, C, dx, _, _, rfl, h1, T.cl, T.n5, f_counts, κ.dc, _, rfl, .inl B1.cn, fun ls hls=>?_⟩
  have Sm2:Same (upd H fl (.lst [])) (upd (upd H fl (.lst [])) ls (.lst ((tabK mC S.ents).map fun kv=>kV kv.1))):=Same.upd hls
  have ekeys:((tabK mC S.ents).map fun kv=>kV kv.1) = S.ents.map fun e=>V.str e.1:=by unfold tabK; rw [List.map_map]; rfl
  have hls2:(upd (upd H fl (.lst [])) ls (.lst ((tabK mC S.ents).map fun kv=>kV kv.1))) ls = some (.lst (S.ents.map fun e=>.str e.1)):=by rw [upd_same, ekeys]
  have B2:=B1.same O Sm2
  have nfl:¬ κ.own fl:=B0.new hfl
  have nls:¬ κ.own ls:=B1.new hls
  have nfls:fl ≠ ls:=ne_of_none upd_same hls
  refine ⟨ls, rfl, ⟨_, SqL.of hls2⟩, for_list (K:=K) (a:=ls) (xs:=S.ents.map fun e=>V.str e.1) (fun i σ H'=>∃ ts z3 z4, σ = [some (.ref κ.p), some (.int times), some (.ref fl), z3, z4, none] ∧ Mid κ S t H H' times fl ls i ts)
   ⟨[], none, none, rfl, ?_⟩ (fun i σ H' _ ⟨ts, z3, z4, _, M⟩=>SqL.of M.hl) ?_ ?_⟩
  ·refine ⟨hls2, ?_, fun q hq=>by simp at hq, rfl, ?_, Fr.of_same (Sm1.trans Sm2)⟩
   ·exact Sm2 _ _ upd_same
   ·exact B2
  ·-- a turn
   rintro i x σ H1 hi ⟨ts, z3, z4, rfl, M⟩
   obtain ⟨e, he, rfl⟩:∃ e, S.ents[i]? = some e ∧ x = .str e.1:=by
    rw [List.getElem?_map] at hi
    cases q:S.ents[i]? with
    | none=>rw [q] at hi; cases hi
    | some e=>rw [q] at hi; exact ⟨e, rfl, (Option.some.inj hi).symm⟩
   have hmem:e ∈ S.ents:=List.mem_of_getElem? he
   obtain ⟨hap1, hap2⟩:=mid_apart (p:=S.part) (t:=times) fit.nd he
   obtain ⟨c1, c2⟩:=fit.cs e hmem
   have eM:=midE_at (p:=S.part) (t:=times) he
   obtain ⟨dx1, g1⟩:=M.bk.ob
   rw [hC] at g1
   have gc:H1 κ.dc = some (.dK (tabK mC (ageE (S.ents.take i) S.part times ++ e :: S.ents.drop (i + 1)))):=by rw [← eM]; exact M.bk.cn
   have gl:H1 κ.dl = some (.dK (tabK mL (ageE (S.ents.take i) S.part times ++ e :: S.ents.drop (i + 1)))):=by rw [← eM]; exact M.bk.ls
   have vc:DGet H1 κ.dc (.str e.1) (some (.int e.2.1)):=by
    have:=DGet.k (k:=Sum.inr e.1) gc
    rw [valV_tab, findE_mid hap1] at this
    exact this
   have vl:DGet H1 κ.dl (.str e.1) (some (.int e.2.2)):=by
    have:=DGet.k (k:=Sum.inr e.1) gl
    rw [valV_tab, findE_mid hap1] at this
    exact this
   have npc:=M.bk.pc
   have npl:=M.bk.pl
   refine ⟨_, rfl, κ.p, C, dx1, _, _, rfl, g1, T.cl, T.n5, f_counts, _, rfl, κ.dc, _, rfl, vc, _, rfl, κ.p, C, dx1, _, _, rfl, g1, T.cl, T.n2, f_part, _, rfl, e.2.1, S.part, times, rfl, by omega, c2, fit.pt1, fit.pt2, by omega, ?_⟩
   refine ⟨_, rfl, _, _, rfl, rfl, _, rfl, ?_⟩
   have hlen:(ageE (S.ents.take i) S.part times ++ e :: S.ents.drop (i + 1)).length < 64:=by
    have l1:(ageE (S.ents.take i) S.part times).length ≤ i:=by
     unfold ageE
     rw [List.length_map]
     exact Nat.le_trans (List.length_filter_le _ _) (by rw [List.length_take]; omega)
    have l2:i < S.ents.length:=(List.getElem?_eq_some_iff.mp he).1
    have l3:=fit.few
    rw [List.length_append, List.length_cons, List.length_drop]
    omega
   refine ite2 (fun hpos=>?_) (fun hneg=>?_)
   ·have hpos:0 < agedI e.2.1 S.part times:=of_decide_eq_true hpos
    refine ⟨_, rfl, _, rfl, κ.p, C, dx1, _, _, rfl, g1, T.cl, T.n5, f_counts, _, rfl, κ.dc, _, rfl, DPut.k (k:=Sum.inr e.1) gc (by rw [tabK_length]; exact line64 hlen), ?_⟩
    refine ⟨ts, _, _, rfl, ?_, ?_, fun q hq=>?_, ?_, ?_, ?_⟩
    ·rw [upd_ne (fun z=>nls (by rw [z]; exact O.oc))]; exact M.hl
    ·rw [upd_ne (fun z=>nfl (by rw [z]; exact O.oc))]; exact M.hf
    ·rw [upd_ne (ne_of (M.ht q hq) gc (by intro z; cases z))]; exact M.ht q hq
    ·rw [gone_stay he hpos]; exact M.hg
    ·have eN:=midE_stay (p:=S.part) (t:=times) he hpos
     refine ⟨⟨dx1, ?_⟩, ?_, ?_, O.onU M.bk.ex (.inr (.inl rfl)) gc (by intro xs z; cases z), al_upd M.bk.al (by intro xs z; cases z)⟩
     ·rw [upd_ne npc, hC]; exact g1
     ·rw [upd_same, putK_mid hap1 hap2]
      show _ = some (HO.dK (tabK mC (midE S.ents S.part times (i + 1))))
      rw [eN, tabK_append]
      rfl
     ·rw [upd_ne O.ne.symm]
      show _ = some (HO.dK (tabK mL (midE S.ents S.part times (i + 1))))
      rw [eN, gl, tabK_append, tabK_append]
      rfl
    ·exact M.fr.trans (Fr.upd O O.oc)
   ·have hneg:¬ 0 < agedI e.2.1 S.part times:=fun z=>hneg (decide_eq_true z)
    obtain ⟨eN, eG⟩:=midE_go (p:=S.part) (t:=times) he hneg
    refine ⟨_, rfl, .inl ⟨rfl, _, SqL.of M.hf⟩, _, rfl, κ.p, C, dx1, _, _, rfl, g1, T.cl, T.n6, f_lasts, _, rfl, κ.dl, _, rfl, vl, _, rfl, (by show 2 ≤ sizeLine; decide), fun tq htq=>?_⟩
    have Smt:Same H1 (upd H1 tq (.tup [.int e.2.2, .str e.1])):=Same.upd htq
    have hf2:=Smt _ _ M.hf
    have nts:ts.length < 64:=by
     have:=congrArg List.length M.hg
     rw [List.length_map] at this
     rw [this]
     refine Nat.lt_of_le_of_lt ?_ fit.few
     unfold goneE
     exact Nat.le_trans (List.length_filter_le _ _) (by rw [List.length_take]; omega)
    refine ⟨fl, _, _, rfl, rfl, hf2, by rw [List.length_map]; exact line64 nts, ?_⟩
    have hfne:∀ b o, H1 b = some o -> (∀ l, o ≠ .lst l) -> b ≠ fl:=fun b o e1 hne=>ne_of e1 M.hf (fun z=>hne _ z)
    have g1':(upd (upd H1 tq (.tup [.int e.2.2, .str e.1])) fl (.lst ((ts.map fun q=>V.ref q.1) ++ [.ref tq]))) κ.p = some (.ins C dx1 (fldsB { S with ents:=midE S.ents S.part times i } κ.dc κ.dl (κ.ex t))):=by
     rw [upd_ne (hfne _ _ g1 (by intro l z; cases z))]; exact Smt _ _ g1
    have gc':(upd (upd H1 tq (.tup [.int e.2.2, .str e.1])) fl (.lst ((ts.map fun q=>V.ref q.1) ++ [.ref tq]))) κ.dc = some (.dK (tabK mC (ageE (S.ents.take i) S.part times ++ e :: S.ents.drop (i + 1)))):=by
     rw [upd_ne (hfne _ _ gc (by intro l z; cases z))]; exact Smt _ _ gc
    have gl':(upd (upd H1 tq (.tup [.int e.2.2, .str e.1])) fl (.lst ((ts.map fun q=>V.ref q.1) ++ [.ref tq]))) κ.dl = some (.dK (tabK mL (ageE (S.ents.take i) S.part times ++ e :: S.ents.drop (i + 1)))):=by
     rw [upd_ne (hfne _ _ gl (by intro l z; cases z))]; exact Smt _ _ gl
    generalize hH2:upd (upd H1 tq (.tup [.int e.2.2, .str e.1])) fl (.lst ((ts.map fun q=>V.ref q.1) ++ [.ref tq])) = H2 at g1' gc' gl' ⊢
    have keep2:∀ b o, H1 b = some o -> b ≠ fl -> H2 b = some o:=fun b o e1 hb=>by rw [← hH2, upd_ne hb]; exact Smt _ _ e1
    have vc':valV (tabK mC (ageE (S.ents.take i) S.part times ++ e :: S.ents.drop (i + 1))) (Sum.inr e.1:Key) = some (.int e.2.1):=by rw [valV_tab, findE_mid hap1]; rfl
    have vl':valV (tabK mL (ageE (S.ents.take i) S.part times ++ e :: S.ents.drop (i + 1))) (Sum.inr e.1:Key) = some (.int e.2.2):=by rw [valV_tab, findE_mid hap1]; rfl
    refine ⟨_, rfl, κ.p, C, dx1, _, _, rfl, g1', T.cl, T.n5, f_counts, κ.dc, rfl, .inl ⟨_, .inl gc'⟩, _, rfl, _, Sum.inr e.1, _, gc', rfl, vc', ?_⟩
    have g1'':∀ o, (upd H2 κ.dc o) κ.p = some (.ins C dx1 (fldsB { S with ents:=midE S.ents S.part times i } κ.dc κ.dl (κ.ex t))):=fun o=>by rw [upd_ne npc]; exact g1'
    have gl'':∀ o, (upd H2 κ.dc o) κ.dl = some (.dK (tabK mL (ageE (S.ents.take i) S.part times ++ e :: S.ents.drop (i + 1)))):=fun o=>by rw [upd_ne O.ne.symm]; exact gl'
    refine ⟨_, rfl, κ.p, C, dx1, _, _, rfl, g1'' _, T.cl, T.n6, f_lasts, κ.dl, rfl, .inl ⟨_, .inl (gl'' _)⟩, _, rfl, _, Sum.inr e.1, _, gl'' _, rfl, vl', ?_⟩
    refine ⟨ts ++ [(tq, e)], _, _, rfl, ?_, ?_, fun q hq=>?_, ?_, ?_, ?_⟩
    ·rw [upd_ne (fun z=>nls (by rw [z]; exact O.ol)), upd_ne (fun z=>nls (by rw [z]; exact O.oc))]
     exact keep2 _ _ M.hl (Ne.symm nfls)
    ·rw [upd_ne (fun z=>nfl (by rw [z]; exact O.ol)), upd_ne (fun z=>nfl (by rw [z]; exact O.oc)), ← hH2, upd_same, List.map_append]
     rfl
    ·have hq':H2 q.1 = some (.tup [.int q.2.2.2, .str q.2.1]):=by
      rcases List.mem_append.mp hq with z | z
      ·exact keep2 _ _ (M.ht q z) (hfne _ _ (M.ht q z) (by intro l z; cases z))
      ·rw [List.mem_singleton.mp z, ← hH2, upd_ne (Ne.symm (ne_of_none M.hf htq)), upd_same]
     rw [upd_ne (ne_of hq' gl' (by intro z; cases z)), upd_ne (ne_of hq' gc' (by intro z; cases z))]
     exact hq'
    ·rw [List.map_append, M.hg, eG]; rfl
    ·have on2:κ.on t H2:=by
      rw [← hH2]
      exact O.onU ((M.bk.same O Smt).ex) (.inr (.inr (.inr nfl))) hf2 (by intro xs z; cases z)
     refine ⟨⟨dx1, ?_⟩, ?_, ?_, O.onU (O.onU on2 (.inr (.inl rfl)) gc' (by intro xs z; cases z)) (.inr (.inr (.inl rfl))) (gl'' _) (by intro xs z; cases z), al_upd (al_upd ?_ (by intro xs z; cases z)) (by intro xs z; cases z)⟩
     ·rw [upd_ne npl, hC]; exact g1'' _
     ·rw [upd_ne O.ne, upd_same, dropK_mid hap1 hap2]
      show _ = some (HO.dK (tabK mC (midE S.ents S.part times (i + 1))))
      rw [eN]
     ·rw [upd_same, dropK_mid hap1 hap2]
      show _ = some (HO.dK (tabK mL (midE S.ents S.part times (i + 1))))
      rw [eN]
     ·rw [← hH2]; exact al_upd (M.bk.same O Smt).al (by intro xs z; cases z)
    ·intro b o e1 n1
     have hb1:=M.fr b o e1 n1
     rw [upd_ne (fun z=>n1 (by rw [z]; exact O.ol)), upd_ne (fun z=>n1 (by rw [z]; exact O.oc))]
     exact keep2 b o hb1 (ne_of_none e1 hfl)
  ·-- behind the first loop
   rintro σ H1 ⟨ts, z3, z4, rfl, M⟩
   rw [List.length_map] at M
   have hg:ts.map (·.2) = goneE S.ents S.part times:=by
    have:=M.hg
    rw [List.take_of_length_le (Nat.le_refl _)] at this
    exact this
   have bk:BookAt κ (ageS S times) t H1:=by
    have:=M.bk
    unfold midE at this
    rw [List.take_of_length_le (Nat.le_refl _), List.drop_of_length_le (Nat.le_refl _), List.append_nil] at this
    exact this
   have hmem:∀ q ∈ ts, q.2 ∈ S.ents:=fun q hq=>by
    have:q.2 ∈ goneE S.ents S.part times:=by rw [← hg]; exact List.mem_map.mpr ⟨q, hq, rfl⟩
    exact (List.mem_filter.mp this).1
   have hnd:(ts.map fun q=>q.2.1).Nodup:=by
    have:((ts.map (·.2)).map (·.1)).Nodup:=by
     rw [hg]
     unfold goneE
     exact (List.filter_sublist.map _).nodup fit.nd
    rw [List.map_map] at this
    exact this
   have nts:ts.length < 64:=by
    have:=congrArg List.length hg
    rw [List.length_map] at this
    rw [this]
    exact Nat.lt_of_le_of_lt (List.length_filter_le _ _) fit.few
   refine ⟨_, rfl, _, ts.map fun q=>(V.ref q.1, [q.2.2.2]), 1, rfl, ⟨fl, rfl, .inl (SqL.of (by rw [List.map_map]; exact M.hf))⟩, by rw [List.length_map]; exact nts, by decide, ?_, ?_, ?_, fun qs D sb hD=>?_⟩
   ·intro z hz
    obtain ⟨q, hq, rfl⟩:=List.mem_map.mp hz
    rfl
   ·rw [List.map_map, List.pairwise_map]
    have:ts.Pairwise fun a b=>a.2.1 ≠ b.2.1:=by
     have:=hnd
     unfold List.Nodup at this
     rw [List.pairwise_map] at this
     exact this
    refine List.Pairwise.imp_of_mem ?_ this
    intro a b ha hb hab he
    exact hab (fit.inj _ (hmem a ha) _ (hmem b hb) (List.cons.inj he).1)
   ·intro z hz
    obtain ⟨q, hq, rfl⟩:=List.mem_map.mp hz
    exact ⟨q.1, [.str q.2.1], rfl, SqT.of (M.ht q hq)⟩
   ·obtain ⟨us, hp, rfl, fo⟩:=fade_order hg rfl sb
    have SmD:Same H1 (upd H1 D (.lst ((us.map fun q=>(V.ref q.1, [q.2.2.2])).map (·.1)))):=Same.upd hD
    have exs:(us.map fun q=>(V.ref q.1, [q.2.2.2])).map (·.1) = us.map fun q=>V.ref q.1:=by rw [List.map_map]; rfl
    have nD:¬ κ.own D:=bk.new hD
    have ntq:∀ q ∈ us, ¬ κ.own q.1:=fun q hq=>bk.noTup (M.ht q (hp.mem_iff.mp hq))
    refine ⟨D, rfl, ⟨_, SqL.of upd_same⟩, for_list (K:=K) (a:=D) (xs:=us.map fun q=>V.ref q.1) (fun j σ H'=>∃ z3 z4 z5, σ = [some (.ref κ.p), some (.int times), some (.ref fl), z3, z4, z5] ∧ H' D = some (.lst (us.map fun q=>.ref q.1)) ∧ (∀ q ∈ us, H' q.1 = some (.tup [.int q.2.2.2, .str q.2.1])) ∧
      BookAt κ (ageS S times) (foldF fadeF S.deeds ((us.take j).map fun q=>(q.2.2.2, q.2.1)) t) H' ∧ Fr κ H H')
     ⟨z3, z4, none, rfl, by rw [upd_same, exs], fun q hq=>SmD _ _ (M.ht q (hp.mem_iff.mp hq)), bk.same O SmD, M.fr.trans (Fr.of_same SmD)⟩ (fun j σ H' _ ⟨_, _, _, _, hl, _⟩=>SqL.of hl) ?_ ?_⟩
    ·rintro j x σ H2 hj ⟨y3, y4, y5, rfl, hl2, ht2, b2, f2⟩
     obtain ⟨q, hq, rfl⟩:∃ q, us[j]? = some q ∧ x = .ref q.1:=by
      rw [List.getElem?_map] at hj
      cases e:us[j]? with
      | none=>rw [e] at hj; cases hj
      | some q=>rw [e] at hj; exact ⟨q, rfl, (Option.some.inj hj).symm⟩
     have hqm:q ∈ us:=List.mem_of_getElem? hq
     obtain ⟨dx2, g2⟩:=b2.ob
     rw [hC] at g2
     refine ⟨q.1, _, rfl, SqT.of (ht2 q hqm), rfl, _, _, rfl, _, _, rfl, rfl, ?_⟩
     refine ⟨_, rfl, κ.p, dx2, _, rfl, g2, b2.fno O (by decide +kernel) (by decide +kernel), _, rfl, _, rfl, ?_⟩
     refine ⟨κ, ageS S times, _, q.2.1, q.2.2.2, hκ, rfl, b2, fun H3 b3 f3=>?_⟩
     refine ⟨_, _, _, rfl, f3 _ _ hl2 nD, fun q' hq'=>f3 _ _ (ht2 q' hq') (ntq q' hq'), ?_, f2.trans f3⟩
     rw [take_at hq, List.map_append]
     unfold foldF at b3 ⊢
     rw [List.foldl_append]
     exact b3
    ·rintro σ H2 ⟨y3, y4, y5, rfl, hl2, ht2, b2, f2⟩
     rw [List.length_map, List.take_of_length_le (Nat.le_refl _)] at b2
     exact k _ H2 fo b2 f2
end
end Lk

namespace Lk
open PySem L2
section
variable {P:Program} {w:World} {K:PySem.W.Frag} {mg:Str -> Option Value} {base:Heap} {τ:Type} {C:Addr} (𝒪:Objs τ C) (fadeF:Int -> Str -> Int -> τ -> τ)
def PassT (S:BS) (steps:Int) (t t':τ):Prop:=if 0 < timesOf S steps then ∃ qs, FadeOrder S (timesOf S steps) qs ∧ t' = foldF fadeF S.deeds qs t else t' = t
def spPassTime:Sp:=fun vs H Q _=>∃ κ S t steps, 𝒪.is κ ∧ vs = [.ref κ.p, .int steps] ∧ BookAt κ S t H ∧ Fit S ∧ 0 ≤ steps ∧ ∀ t' H', PassT fadeF S steps t t' -> BookAt κ (passS S steps) t' H' -> Fr κ H H' -> Q (.int (timesOf S steps)) H'
theorem scPassTime:FnScope ["self", "steps", "times"] ["self", "steps"] (defScope sPassTime):=⟨rfl, rfl, rfl, by decide +kernel, rfl, by decide +kernel, by decide +kernel⟩
theorem ok_passTime {f ga gc:Addr} (F:FunB K "pass_time" "Book.pass_time" sPassTime f ["self", "steps"]) (T:BTxt K C) (Ga:FnP P w K mg base 1 ga ["span", "since", "upto"] spAgeings) (hga:mg "ageings" = some (.ref ga)) (Gc:FnP P w K mg base 12 gc ["self", "times"] (spAgeCounts 𝒪 fadeF)) (Mc:Meth K C "age_counts" gc) :
  FnP P w K mg base 14 f ["self", "steps"] (spPassTime 𝒪 fadeF):=by
 refine F.ok scPassTime (fun vs H Q E h=>?_) (fun cdv A outer s H vs Q E hr h=>?_)
 ·obtain ⟨κ, S, t, steps, _, rfl, _⟩:=h
  rfl
 ·obtain ⟨κ, S, t, steps, hκ, rfl, B0, fit, hst, k⟩:=h
  have hC:=𝒪.cls κ hκ
  have O:=𝒪.ok κ hκ
  obtain ⟨dx, h1⟩:=B0.ob
  rw [hC] at h1
  refine ⟨_, pss_cons (ps_set (i:=2) scPassTime.nd rfl (Or.inl rfl) (pe_callP Ga (hr.mono (by decide)) hga (pa_cons (pe_fld (pv 0) rfl) (pa_cons (pe_fld (pv 0) rfl) (pa_cons (pe_op op_add (pe_fld (pv 0) rfl) (pv 1)) pa_nil)))))
   (pss_cons (ps_fldaug (pv 0) (pv 1) in_add)
   (pss_cons (ps_if (pt_cmpR op_gt (pv 2) pe_int (nomark _)) (pss_one (ps_expr (pe_methP (pv 0) T.cl Mc Gc (hr.mono (by decide)) (pa_cons (pv 2) pa_nil)))) pss_nil)
   (pss_one (ps_ret (pv 2))))), ?_⟩
  refine ⟨_, rfl, κ.p, C, dx, _, _, rfl, h1, T.cl, T.n1, f_span, _, rfl, κ.p, C, dx, _, _, rfl, h1, T.cl, T.n3, f_time, _, rfl, κ.p, C, dx, _, _, rfl, h1, T.cl, T.n3, f_time, _, rfl, _, _, rfl, rfl, S.span, S.time, S.time + steps, rfl, fit.sp1, fit.sp2, ?_⟩
  refine ⟨_, rfl, κ.p, C, dx, _, _, rfl, h1, T.cl, T.n3, f_time, _, rfl, _, _, rfl, rfl, dx, _, h1, f_len (O.exl t), ?_⟩
  have B1:BookAt κ { S with time:=S.time + steps } t (upd H κ.p (.ins C dx (putF "time" (.int (S.time + steps)) (fldsB S κ.dc κ.dl (κ.ex t))))):=by
   rw [f_setTime, ← hC]
   exact B0.setOb O rfl
  have F1:Fr κ H (upd H κ.p (.ins C dx (putF "time" (.int (S.time + steps)) (fldsB S κ.dc κ.dl (κ.ex t))))):=Fr.upd O O.op
  refine ⟨_, rfl, _, _, rfl, rfl, _, rfl, ?_⟩
  refine ite2 (fun hpos=>?_) (fun hneg=>?_)
  ·have hpos:0 < timesOf S steps:=of_decide_eq_true hpos
   obtain ⟨dx1, g1⟩:=B1.ob
   rw [hC] at g1
   refine ⟨_, rfl, κ.p, dx1, _, rfl, g1, B1.fno O (by decide +kernel) (by decide +kernel), _, rfl, ?_⟩
   refine ⟨κ, { S with time:=S.time + steps }, t, timesOf S steps, hκ, rfl, B1, ⟨fit.sp1, fit.sp2, fit.pt1, fit.pt2, by show 0 ≤ S.time + steps; have:=fit.t0; omega, fit.nd, fit.cs, fit.inj, fit.few⟩, hpos, fun qs H2 fo b2 f2=>?_⟩
   refine ⟨_, rfl, k (foldF fadeF S.deeds qs t) H2 ?_ ?_ (F1.trans f2)⟩
   ·unfold PassT
    rw [if_pos hpos]
    exact ⟨qs, fo, rfl⟩
   ·unfold passS
    rw [if_pos hpos]
    exact b2
  ·have hneg:¬ 0 < timesOf S steps:=fun z=>hneg (decide_eq_true z)
   refine ⟨_, rfl, k t _ ?_ ?_ F1⟩
   ·unfold PassT
    rw [if_neg hneg]
   ·unfold passS
    rw [if_neg hneg]
    exact B1
def deedS (S:BS):BS:={ S with deeds:=S.deeds + 1 }
theorem Fit.deed {S:BS} (h:Fit S):Fit (deedS S):=⟨h.sp1, h.sp2, h.pt1, h.pt2, h.t0, h.nd, h.cs, h.inj, h.few⟩
def spBeginAsk:Sp:=fun vs H Q _=>∃ κ S t n w, 𝒪.is κ ∧ vs = [.ref κ.p, .str n, .int w] ∧ BookAt κ S t H ∧ Fit S ∧ GoodName n ∧ 1 ≤ w ∧ w ≤ 10 ^ 30 ∧ ∀ t' H', PassT fadeF (deedS S) 1 t t' -> BookAt κ (passS (deedS S) 1) t' H' -> Fr κ H H' -> Q .non H'
theorem scBeginAsk:FnScope ["self", "name", "weight"] ["self", "name", "weight"] (defScope sBeginAsk):=⟨rfl, rfl, rfl, by decide +kernel, rfl, by decide +kernel, by decide +kernel⟩
theorem ok_beginAsk {f gn gw gp:Addr} (F:FunB K "begin_ask" "Book.begin_ask" sBeginAsk f ["self", "name", "weight"]) (T:BTxt K C) (Gn:FnP P w K mg base 2 gn ["name"] spCkName) (hgn:mg "check_name" = some (.ref gn)) (Gw:FnP P w K mg base 2 gw ["weight"] spCkWeight) (hgw:mg "check_weight" = some (.ref gw))
  (Gp:FnP P w K mg base 14 gp ["self", "steps"] (spPassTime 𝒪 fadeF)) (Mp:Meth K C "pass_time" gp):FnP P w K mg base 16 f ["self", "name", "weight"] (spBeginAsk 𝒪 fadeF):=by
 refine F.ok scBeginAsk (fun vs H Q E h=>?_) (fun cdv A outer s H vs Q E hr h=>?_)
 ·obtain ⟨κ, S, t, n, w, _, rfl, _⟩:=h
  rfl
 ·obtain ⟨κ, S, t, n, w, hκ, rfl, B0, fit, gn1, w1, w2, k⟩:=h
  have hC:=𝒪.cls κ hκ
  have O:=𝒪.ok κ hκ
  refine ⟨_, pss_cons (ps_expr (pe_callP Gn (hr.mono (by decide)) hgn (pa_cons (pv 1) pa_nil)))
   (pss_cons (ps_expr (pe_callP Gw (hr.mono (by decide)) hgw (pa_cons (pv 2) pa_nil)))
   (pss_cons (ps_fldaug (pv 0) pe_int in_add)
   (pss_one (ps_expr (pe_methP (pv 0) T.cl Mp Gp (hr.mono (by decide)) (pa_cons pe_int pa_nil)))))), ?_⟩
  refine ⟨_, rfl, n, rfl, gn1, fun H1 Sm=>?_⟩
  have B1:=B0.same O Sm
  obtain ⟨dx, h1⟩:=B1.ob
  rw [hC] at h1
  refine ⟨_, rfl, w, rfl, w1, w2, ?_⟩
  refine ⟨_, rfl, κ.p, C, dx, _, _, rfl, h1, T.cl, T.n4, f_deeds, _, _, rfl, rfl, dx, _, h1, f_len (O.exl t), ?_⟩
  have B2:BookAt κ (deedS S) t (upd H1 κ.p (.ins C dx (putF "deeds" (.int (S.deeds + 1)) (fldsB S κ.dc κ.dl (κ.ex t))))):=by
   rw [f_setDeeds, ← hC]
   exact B1.setOb O rfl
  obtain ⟨dx2, h2⟩:=B2.ob
  rw [hC] at h2
  refine ⟨_, rfl, κ.p, dx2, _, rfl, h2, B2.fno O (by decide +kernel) (by decide +kernel), ?_⟩
  refine ⟨κ, deedS S, t, 1, hκ, rfl, B2, fit.deed, by decide, fun t' H3 pt b3 f3=>?_⟩
  exact k t' H3 pt b3 (((Fr.of_same Sm).trans (Fr.upd O O.op)).trans f3)
def spRest:Sp:=fun vs H Q _=>∃ κ S t steps, 𝒪.is κ ∧ vs = [.ref κ.p, .int steps] ∧ BookAt κ S t H ∧ Fit S ∧ 0 ≤ steps ∧ steps ≤ 10 ^ 30 ∧ ∀ t' H', PassT fadeF (deedS S) steps t t' -> BookAt κ (passS (deedS S) steps) t' H' -> Fr κ H H' -> Q (.int (timesOf S steps)) H'
theorem scRest:FnScope ["self", "steps"] ["self", "steps"] (defScope sRest):=⟨rfl, rfl, rfl, by decide +kernel, rfl, by decide +kernel, by decide +kernel⟩
theorem ok_rest {f gs gp:Addr} (F:FunB K "rest" "Book.rest" sRest f ["self", "steps"]) (T:BTxt K C) (Gs:FnP P w K mg base 2 gs ["steps"] spCkSteps) (hgs:mg "check_steps" = some (.ref gs))
  (Gp:FnP P w K mg base 14 gp ["self", "steps"] (spPassTime 𝒪 fadeF)) (Mp:Meth K C "pass_time" gp):FnP P w K mg base 16 f ["self", "steps"] (spRest 𝒪 fadeF):=by
 refine F.ok scRest (fun vs H Q E h=>?_) (fun cdv A outer s H vs Q E hr h=>?_)
 ·obtain ⟨κ, S, t, steps, _, rfl, _⟩:=h
  rfl
 ·obtain ⟨κ, S, t, steps, hκ, rfl, B0, fit, s0, s1, k⟩:=h
  have hC:=𝒪.cls κ hκ
  have O:=𝒪.ok κ hκ
  obtain ⟨dx, h1⟩:=B0.ob
  rw [hC] at h1
  refine ⟨_, pss_cons (ps_expr (pe_callP Gs (hr.mono (by decide)) hgs (pa_cons (pv 1) pa_nil)))
   (pss_cons (ps_fldaug (pv 0) pe_int in_add)
   (pss_one (ps_ret (pe_methP (pv 0) T.cl Mp Gp (hr.mono (by decide)) (pa_cons (pv 1) pa_nil))))), ?_⟩
  refine ⟨_, rfl, steps, rfl, s0, s1, ?_⟩
  refine ⟨_, rfl, κ.p, C, dx, _, _, rfl, h1, T.cl, T.n4, f_deeds, _, _, rfl, rfl, dx, _, h1, f_len (O.exl t), ?_⟩
  have B2:BookAt κ (deedS S) t (upd H κ.p (.ins C dx (putF "deeds" (.int (S.deeds + 1)) (fldsB S κ.dc κ.dl (κ.ex t))))):=by
   rw [f_setDeeds, ← hC]
   exact B0.setOb O rfl
  obtain ⟨dx2, h2⟩:=B2.ob
  rw [hC] at h2
  refine ⟨_, rfl, κ.p, dx2, _, rfl, h2, B2.fno O (by decide +kernel) (by decide +kernel), _, rfl, ?_⟩
  exact ⟨κ, deedS S, t, steps, hκ, rfl, B2, fit.deed, s0, fun t' H3 pt b3 f3=>k t' H3 pt b3 ((Fr.upd O O.op).trans f3)⟩
def spBeginDrop:Sp:=fun vs H Q _=>∃ κ S t n, 𝒪.is κ ∧ vs = [.ref κ.p, .str n] ∧ BookAt κ S t H ∧ GoodName n ∧ ∀ H', BookAt κ (deedS S) t H' -> Fr κ H H' -> Q .non H'
theorem scBeginDrop:FnScope ["self", "name"] ["self", "name"] (defScope sBeginDrop):=⟨rfl, rfl, rfl, by decide +kernel, rfl, by decide +kernel, by decide +kernel⟩
theorem ok_beginDrop {f gn:Addr} (F:FunB K "begin_drop" "Book.begin_drop" sBeginDrop f ["self", "name"]) (T:BTxt K C) (Gn:FnP P w K mg base 2 gn ["name"] spCkName) (hgn:mg "check_name" = some (.ref gn)):FnP P w K mg base 4 f ["self", "name"] (spBeginDrop 𝒪):=by
 refine F.ok scBeginDrop (fun vs H Q E h=>?_) (fun cdv A outer s H vs Q E hr h=>?_)
 ·obtain ⟨κ, S, t, n, _, rfl, _⟩:=h
  rfl
 ·obtain ⟨κ, S, t, n, hκ, rfl, B0, gn1, k⟩:=h
  have hC:=𝒪.cls κ hκ
  have O:=𝒪.ok κ hκ
  refine ⟨_, pss_cons (ps_expr (pe_callP Gn (hr.mono (by decide)) hgn (pa_cons (pv 1) pa_nil))) (pss_one (ps_fldaug (pv 0) pe_int in_add)), ?_⟩
  refine ⟨_, rfl, n, rfl, gn1, fun H1 Sm=>?_⟩
  have B1:=B0.same O Sm
  obtain ⟨dx, h1⟩:=B1.ob
  rw [hC] at h1
  refine ⟨_, rfl, κ.p, C, dx, _, _, rfl, h1, T.cl, T.n4, f_deeds, _, _, rfl, rfl, dx, _, h1, f_len (O.exl t), ?_⟩
  refine k _ ?_ ((Fr.of_same Sm).trans (Fr.upd O O.op))
  show BookAt κ (deedS S) t (upd H1 κ.p (.ins C dx (putF "deeds" (.int (S.deeds + 1)) (fldsB S κ.dc κ.dl (κ.ex t)))))
  rw [f_setDeeds, ← hC]
  exact B1.setOb O rfl
def askS (S:BS) (n:Str) (w:Int):BS:=let S1:=passS (deedS S) 1; { S1 with ents:=growE S1.ents n w S1.deeds }
def startS (span part:Int):BS:=⟨span, part, 0, 0, []⟩
def spInit (C:Addr):Sp:=fun vs H Q _=>∃ (p dx:Addr) (span part:Int), vs = [.ref p, .int span, .int part] ∧ H p = some (.ins C dx []) ∧ 1 ≤ span ∧ span ≤ 10 ^ 20 ∧ 2 ≤ part ∧ part ≤ 10 ^ 30 ∧
 ∀ dc dl H', H dc = none -> H dl = none -> dc ≠ dl -> H' p = some (.ins C dx (fldsB (startS span part) dc dl [])) -> H' dc = some (.dK []) -> H' dl = some (.dK []) -> (∀ b o, H b = some o -> b ≠ p -> H' b = some o) -> Q .non H'
theorem scInit:FnScope ["self", "span", "part"] ["self", "span", "part"] (defScope sInit):=⟨rfl, rfl, rfl, by decide +kernel, rfl, by decide +kernel, by decide +kernel⟩
theorem ok_init {f g:Addr} (F:FunB K "__init__" "Book.__init__" sInit f ["self", "span", "part"]) (T:BTxt K C) (G:FnP P w K mg base 2 g ["span", "part"] spCkRule) (hg:mg "check_rule" = some (.ref g)):FnP P w K mg base 4 f ["self", "span", "part"] (spInit C):=by
 refine F.ok scInit (fun vs H Q E h=>?_) (fun cdv A outer s H vs Q E hr h=>?_)
 ·obtain ⟨p, dx, span, part, rfl, _⟩:=h
  rfl
 ·obtain ⟨p, dx, span, part, rfl, hp, g1, g2, g3, g4, k⟩:=h
  refine ⟨_, pss_cons (ps_expr (pe_callP G (hr.mono (by decide)) hg (pa_cons (pv 1) (pa_cons (pv 2) pa_nil))))
   (pss_cons (ps_fld (pv 0) (pv 1) rfl) (pss_cons (ps_fld (pv 0) (pv 2) rfl) (pss_cons (ps_fld (pv 0) pe_int rfl) (pss_cons (ps_fld (pv 0) pe_int rfl)
   (pss_cons (ps_fld (pv 0) pe_dnewK rfl) (pss_one (ps_fld (pv 0) pe_dnewK rfl))))))), ?_⟩
  refine ⟨_, rfl, _, rfl, span, part, rfl, g1, g2, g3, g4, ?_⟩
  refine ⟨_, rfl, _, rfl, p, C, dx, [], rfl, hp, T.cl, T.n1, (by show 0 < 1000; decide), ?_⟩
  refine ⟨_, rfl, _, rfl, p, C, dx, _, rfl, upd_same, T.cl, T.n2, (by show 1 < 1000; decide), ?_⟩
  refine ⟨_, rfl, p, C, dx, _, rfl, upd_same, T.cl, T.n3, (by show 2 < 1000; decide), ?_⟩
  refine ⟨_, rfl, p, C, dx, _, rfl, upd_same, T.cl, T.n4, (by show 3 < 1000; decide), ?_⟩
  rw [upd_upd, upd_upd, upd_upd]
  intro dc hdc
  have npc:p ≠ dc:=ne_of_none upd_same hdc
  refine ⟨_, rfl, p, C, dx, _, rfl, (by rw [upd_ne npc]; exact upd_same), T.cl, T.n5, (by show 4 < 1000; decide), ?_⟩
  intro dl hdl
  have npl:p ≠ dl:=ne_of_none upd_same hdl
  have ncl:dc ≠ dl:=by
   refine ne_of_none (o:=.dK []) ?_ hdl
   rw [upd_ne npc.symm, upd_same]
  refine ⟨_, rfl, p, C, dx, _, rfl, (by rw [upd_ne npl]; exact upd_same), T.cl, T.n6, (by show 5 < 1000; decide), ?_⟩
  have hdc':H dc = none:=by rw [upd_ne npc.symm] at hdc; exact hdc
  have hdl':H dl = none:=by rw [upd_ne npl.symm, upd_ne ncl.symm, upd_ne npl.symm] at hdl; exact hdl
  refine k dc dl _ hdc' hdl' ncl upd_same ?_ ?_ fun b o e hb=>?_
  ·rw [upd_ne npc.symm, upd_ne ncl, upd_ne npc.symm, upd_same]
  ·rw [upd_ne npl.symm, upd_same]
  ·rw [upd_ne hb, upd_ne (ne_of_none e hdl'), upd_ne hb, upd_ne (ne_of_none e hdc'), upd_ne hb]
   exact e
end
section
variable {P:Program} {w:World} {K:PySem.W.Frag} {mg:Str -> Option Value} {base:Heap} {C:Addr}
end
end Lk

namespace Lk
open PySem L2
abbrev sCellAt:Stmt:=top 24
abbrev sLWhole:Stmt:=top 25
abbrev sSign:Stmt:=top 26
abbrev sLNames:Stmt:=top 27
abbrev sMany:Stmt:=top 28
abbrev sSpan:Stmt:=top 29
abbrev sPart:Stmt:=top 30
abbrev sDeed:Stmt:=top 31
abbrev sDo:Stmt:=top 32
section
variable {P:Program} {w:World} {K:PySem.W.Frag} {mg:Str -> Option Value} {base:Heap}
def spCell (K:PySem.W.Frag):Sp:=fun vs H Q _=>∃ (a:Addr) (ns:List Int) (k:Nat), vs = [.ref a, .int k] ∧ SqL K H a (ns.map V.int) ∧ ∀ z:Int, Q (.int z) H
theorem scCell:FnScope ["_law_script", "_law_k"] ["_law_script", "_law_k"] (defScope sCellAt):=⟨rfl, rfl, rfl, by decide +kernel, rfl, by decide +kernel, by decide +kernel⟩
theorem ok_cell {f:Addr} (F:FunB K "_law_cell_at" "_law_cell_at" sCellAt f ["_law_script", "_law_k"]) (B:Blt mg):FnP P w K mg base 1 f ["_law_script", "_law_k"] (spCell K):=by
 refine F.ok scCell (fun vs H Q E h=>?_) (fun cdv A outer s H vs Q E hr h=>?_)
 ·obtain ⟨a, ns, k, rfl, _⟩:=h
  rfl
 ·obtain ⟨a, ns, k, rfl, hS, q⟩:=h
  refine ⟨_, pss_cons (ps_if (pt_cmpR op_lt (pv 1) (pe_callB call_len_seq rfl B.len PySem.boot_len (pa_cons (pv 0) pa_nil)) (nomark _)) (pss_one (ps_ret (pe_ix ix_list (pv 0) (pv 1) (fun _ _=>rfl)))) pss_nil) (pss_one (ps_ret pe_int)), ?_⟩
  refine ⟨_, rfl, _, rfl, a, _, rfl, .inl hS, _, _, rfl, rfl, _, rfl, ?_⟩
  refine ite2 (fun hlt=>?_) (fun _=>?_)
  ·have hlt:(k:Int) < ((ns.map V.int).length:Nat):=of_decide_eq_true hlt
   rw [List.length_map] at hlt
   have hk:k < ns.length:=by omega
   refine ⟨_, rfl, _, rfl, a, _, k, .int ns[k], rfl, rfl, hS, atI_nat (by simp [hk]), q _⟩
  ·exact q 0
def spLWhole:Sp:=fun vs H Q _=>∃ i:Int, vs = [.int i] ∧ Q (.bl true) H
theorem scLWhole:FnScope ["_law_found"] ["_law_found"] (defScope sLWhole):=⟨rfl, rfl, rfl, by decide +kernel, rfl, by decide +kernel, by decide +kernel⟩
theorem ok_lwhole {f:Addr} (F:FunB K "_law_whole" "_law_whole" sLWhole f ["_law_found"]) (B:Blt mg):FnP P w K mg base 1 f ["_law_found"] spLWhole:=by
 refine F.ok scLWhole (fun vs H Q E h=>?_) (fun cdv A outer s H vs Q E hr h=>?_)
 ·obtain ⟨i, rfl, _⟩:=h
  rfl
 ·obtain ⟨i, rfl, q⟩:=h
  refine ⟨_, pss_one (ps_ret (pe_and (pe_isi B.isi B.int (pv 0) PyProof.Rows.boot_int) (pe_one (pe_not (pe_isi B.isi B.bool (pv 0) PyProof.Rows.boot_bool))))), ?_⟩
  refine ⟨_, rfl, _, "int", _, _, rfl, .int i, kit_ii K, _, rfl, ?_⟩
  rw [if_pos rfl]
  exact ⟨_, rfl, _, "bool", _, _, rfl, .int i, kit_ib K, _, rfl, q⟩
def spSign:Sp:=fun vs H Q _=>∃ i:Int, vs = [.int i] ∧ ∀ c:Nat, 32 ≤ c -> c ≤ 126 -> Q (.str ⟨#[c]⟩) H
theorem scSign:FnScope ["_law_number", "_law_some"] ["_law_number"] (defScope sSign):=⟨rfl, rfl, rfl, by decide +kernel, rfl, by decide +kernel, by decide +kernel⟩
theorem signs_ok {z:Str} {i:Int} (hz:z.cps.toList.length = 94) (ha:(z.cps.toList.all fun c=>decide (32 ≤ c ∧ c ≤ 126)) = true) (h0:0 ≤ i) (h1:i < 94):∃ c, atI z.cps.toList i = some c ∧ 32 ≤ c ∧ c ≤ 126:=by
 obtain ⟨k, rfl⟩:=Int.eq_ofNat_of_zero_le h0
 have hk:k < z.cps.toList.length:=by omega
 refine ⟨z.cps.toList[k], atI_nat (by simp [hk]), ?_⟩
 have:=List.all_eq_true.mp ha _ (List.getElem_mem (l:=z.cps.toList) hk)
 exact of_decide_eq_true this
theorem signs_get {z:Str} {i:Int} {G:Prop} (h:∀ c, atI z.cps.toList i = some c -> 32 ≤ c -> c ≤ 126 -> G) (hz:z.cps.toList.length = 94) (ha:(z.cps.toList.all fun c=>decide (32 ≤ c ∧ c ≤ 126)) = true) (h0:0 ≤ i) (h1:i < 94):G:=by
 obtain ⟨c, hc, c1, c2⟩:=signs_ok hz ha h0 h1
 exact h c hc c1 c2
theorem ok_sign {f:Addr} (F:FunB K "_law_sign" "_law_sign" sSign f ["_law_number"]):FnP P w K mg base 1 f ["_law_number"] spSign:=by
 refine F.ok scSign (fun vs H Q E h=>?_) (fun cdv A outer s H vs Q E hr h=>?_)
 ·obtain ⟨i, rfl, _⟩:=h
  rfl
 ·obtain ⟨i, rfl, q⟩:=h
  refine ⟨_, pss_cons (ps_set (i:=1) scSign.nd rfl (Or.inl rfl) pe_str) (pss_cons (ps_set (i:=1) scSign.nd rfl (Or.inl rfl) (pe_op op_add_str (pv 1) pe_str)) (pss_one (ps_ret (pe_ix ix_str (pv 1) (pe_op op_mod (pv 0) pe_int) (fun _ _=>rfl))))), ?_⟩
  refine ⟨_, rfl, _, _, rfl, rfl, by decide +kernel, ?_⟩
  exact signs_get (fun c hc c1 c2=>⟨_, rfl, _, rfl, _, _, rfl, rfl, (by show (0:Int) < 94; decide), _, _, c, rfl, rfl, by decide +kernel, hc, q c c1 c2⟩) (by decide +kernel) (by decide +kernel) (by omega) (by omega)
def spBetween (lo hi:Int):Sp:=fun vs H Q _=>∃ i:Int, vs = [.int i] ∧ ∀ z:Int, lo ≤ z -> z ≤ hi -> Q (.int z) H
theorem scMany:FnScope ["_law_cell"] ["_law_cell"] (defScope sMany):=⟨rfl, rfl, rfl, by decide +kernel, rfl, by decide +kernel, by decide +kernel⟩
theorem ok_many {f:Addr} (F:FunB K "_law_many" "_law_many" sMany f ["_law_cell"]):FnP P w K mg base 1 f ["_law_cell"] (spBetween 1 30):=by
 refine F.ok scMany (fun vs H Q E h=>?_) (fun cdv A outer s H vs Q E hr h=>?_)
 ·obtain ⟨i, rfl, _⟩:=h
  rfl
 ·obtain ⟨i, rfl, q⟩:=h
  refine ⟨_, pss_cons (ps_if (pt_cmpR op_eq (pe_op op_mod (pv 0) pe_int) pe_int (nomark _)) (pss_one (ps_ret (pe_op op_add pe_int (pe_op op_mod (pe_op op_fdiv (pv 0) pe_int) pe_int)))) pss_nil)
   (pss_one (ps_ret (pe_op op_add pe_int (pe_op op_mod (pe_op op_fdiv (pv 0) pe_int) pe_int)))), ?_⟩
  refine ⟨_, rfl, _, _, rfl, rfl, (by show (0:Int) < 4; decide), rfl, _, rfl, ?_⟩
  refine ite2 (fun _=>?_) (fun _=>?_)
  ·exact ⟨_, rfl, _, _, rfl, rfl, ⟨by decide, by decide⟩, _, _, rfl, rfl, (by first | (show (0:Int) < 30; decide) | (show (0:Int) < 16; decide)), _, _, rfl, rfl, q _ (by omega) (by omega)⟩
  ·exact ⟨_, rfl, _, _, rfl, rfl, ⟨by decide, by decide⟩, _, _, rfl, rfl, (by show (0:Int) < 8; decide), _, _, rfl, rfl, q _ (by omega) (by omega)⟩
theorem scSpan:FnScope ["_law_cell"] ["_law_cell"] (defScope sSpan):=⟨rfl, rfl, rfl, by decide +kernel, rfl, by decide +kernel, by decide +kernel⟩
theorem ok_span {f:Addr} (F:FunB K "_law_span" "_law_span" sSpan f ["_law_cell"]):FnP P w K mg base 1 f ["_law_cell"] (spBetween 1 (10 ^ 20)):=by
 refine F.ok scSpan (fun vs H Q E h=>?_) (fun cdv A outer s H vs Q E hr h=>?_)
 ·obtain ⟨i, rfl, _⟩:=h
  rfl
 ·obtain ⟨i, rfl, q⟩:=h
  refine ⟨_, pss_cons (ps_if (pt_cmpR op_eq (pe_op op_mod (pv 0) pe_int) pe_int (nomark _)) (pss_one (ps_ret (pe_op op_add pe_int (pe_op op_mod (pe_op op_fdiv (pv 0) pe_int) (pe_op op_pow pe_int pe_int))))) pss_nil)
   (pss_one (ps_ret (pe_op op_add pe_int (pe_op op_mod (pe_op op_fdiv (pv 0) pe_int) pe_int)))), ?_⟩
  refine ⟨_, rfl, _, _, rfl, rfl, (by show (0:Int) < 4; decide), rfl, _, rfl, ?_⟩
  refine ite2 (fun _=>?_) (fun _=>?_)
  ·refine ⟨_, rfl, _, _, rfl, rfl, ⟨by decide, by decide⟩, _, _, rfl, rfl, pow_ok _ (by decide) (by decide), _, _, rfl, rfl, (by show (0:Int) < 10 ^ Int.toNat 20; decide), _, _, rfl, rfl, ?_⟩
   rw [p20]
   exact q _ (by omega) (by omega)
  ·exact ⟨_, rfl, _, _, rfl, rfl, ⟨by decide, by decide⟩, _, _, rfl, rfl, (by show (0:Int) < 12; decide), _, _, rfl, rfl, q _ (by omega) (by omega)⟩
theorem scPart:FnScope ["_law_cell"] ["_law_cell"] (defScope sPart):=⟨rfl, rfl, rfl, by decide +kernel, rfl, by decide +kernel, by decide +kernel⟩
theorem ok_part {f:Addr} (F:FunB K "_law_part" "_law_part" sPart f ["_law_cell"]):FnP P w K mg base 1 f ["_law_cell"] (spBetween 2 (10 ^ 30)):=by
 refine F.ok scPart (fun vs H Q E h=>?_) (fun cdv A outer s H vs Q E hr h=>?_)
 ·obtain ⟨i, rfl, _⟩:=h
  rfl
 ·obtain ⟨i, rfl, q⟩:=h
  refine ⟨_, pss_cons (ps_if (pt_cmpR op_eq (pe_op op_mod (pv 0) pe_int) pe_int (nomark _)) (pss_one (ps_ret (pe_op op_add pe_int (pe_op op_mod (pe_op op_fdiv (pv 0) pe_int) (pe_op op_sub (pe_op op_pow pe_int pe_int) pe_int))))) pss_nil)
   (pss_one (ps_ret (pe_op op_add pe_int (pe_op op_mod (pe_op op_fdiv (pv 0) pe_int) pe_int)))), ?_⟩
  refine ⟨_, rfl, _, _, rfl, rfl, (by show (0:Int) < 5; decide), rfl, _, rfl, ?_⟩
  refine ite2 (fun _=>?_) (fun _=>?_)
  ·refine ⟨_, rfl, _, _, rfl, rfl, ⟨by decide, by decide⟩, _, _, rfl, rfl, pow_ok _ (by decide) (by decide), _, _, rfl, rfl, _, _, rfl, rfl, (by show (0:Int) < 10 ^ Int.toNat 30 - 1; decide), _, _, rfl, rfl, ?_⟩
   rw [p30]
   exact q _ (by omega) (by omega)
  ·exact ⟨_, rfl, _, _, rfl, rfl, ⟨by decide, by decide⟩, _, _, rfl, rfl, (by show (0:Int) < 3; decide), _, _, rfl, rfl, q _ (by omega) (by omega)⟩
end
end Lk

namespace Lk
open PySem L2
def Signs (x:Str):Prop:=∀ c ∈ x.cps.toList, 32 ≤ c ∧ c ≤ 126
theorem signs_app {a b:Str} (ha:Signs a) (hb:Signs b):Signs (a ++ b):=by
 intro c hc
 rw [PySem.Str.cps_append, Array.toList_append, List.mem_append] at hc
 rcases hc with hc | hc
 ·exact ha c hc
 ·exact hb c hc
theorem signs_one {c:Nat} (h:32 ≤ c) (h2:c ≤ 126):Signs ⟨#[c]⟩:=by
 intro d hd
 have:d = c:=by simpa using hd
 omega
theorem signs_empty:Signs ("":Str):=by
 intro c hc
 rw [show ("":Str).cps.toList = [] by decide] at hc
 simp at hc
theorem signs_joined:∀ l:List Str, (∀ a ∈ l, Signs a) -> Signs (PySem.Str.join ("":Str) l)
 | [], _=>by
   intro c hc
   have e:(PySem.Str.join ("":Str) []).cps.toList = []:=rfl
   rw [e] at hc
   simp at hc
 | [x], h=>h x List.mem_cons_self
 | x :: y :: r, h=>by
   show Signs (x ++ ("":Str) ++ PySem.Str.join ("":Str) (y :: r))
   exact signs_app (signs_app (h x List.mem_cons_self) signs_empty) (signs_joined (y :: r) fun a ha=>h a (List.mem_cons_of_mem _ ha))
theorem signs_join {l:List Str} (h:∀ a ∈ l, Signs a):Signs (Txt.join ("":Str) l):=by
 show Signs (Builtin.Str.glued ("":Str) l)
 rw [StrLaws.glued_eq_join]
 exact signs_joined l h
theorem len_sum_ones {l:List Str} (h:∀ a ∈ l, a.length = 1):(l.map (·.length)).sum = l.length:=by
 induction l with
 | nil=>rfl
 | cons a r ih=>
   rw [List.map_cons, List.sum_cons, h a List.mem_cons_self, ih fun b hb=>h b (List.mem_cons_of_mem _ hb), List.length_cons]
   omega
theorem slice_to {x:Str} {j:Int} (h0:0 ≤ j) (h2:j ≤ x.length):(Txt.slice x none (some j)).cps.toList = x.cps.toList.take j.toNat:=by
 have:=eq_of_beq (PyProof.Rows.slice_closes_toL h0 h2)
 rw [this]
 simp
theorem slice_from {x:Str} {i:Int} (h0:0 ≤ i) (h2:i ≤ x.length):(Txt.slice x (some i) none).cps.toList = x.cps.toList.drop i.toNat:=by
 rw [PyProof.Rows.slice_from_eq h0 h2 rfl]
 simp only [List.toList_toArray]
 rw [List.take_of_length_le]
 rw [List.length_drop, Array.length_toList]
 show x.length - i.toNat ≤ _
 omega
theorem length_list (x:Str):x.length = x.cps.toList.length:=by simp [Str.length]
theorem signs_slice_to {x:Str} {j:Int} (h0:0 ≤ j) (h2:j ≤ x.length) (h:Signs x):Signs (Txt.slice x none (some j)) ∧ (Txt.slice x none (some j)).length = j.toNat:=by
 have e:=slice_to h0 h2
 refine ⟨fun c hc=>h c (List.mem_of_mem_take (by rw [← e]; exact hc)), ?_⟩
 rw [length_list, e, List.length_take, ← length_list]
 omega
theorem signs_slice_from {x:Str} {i:Int} (h0:0 ≤ i) (h2:i ≤ x.length) (h:Signs x):Signs (Txt.slice x (some i) none) ∧ (Txt.slice x (some i) none).length = x.length - i.toNat:=by
 have e:=slice_from h0 h2
 refine ⟨fun c hc=>h c (List.mem_of_mem_drop (by rw [← e]; exact hc)), ?_⟩
 rw [length_list, e, List.length_drop, ← length_list]
section
variable {P:Program} {w:World} {K:PySem.W.Frag} {mg:Str -> Option Value} {base:Heap}
def spLNames:Sp:=fun vs H Q _=>∃ (c:Int) (m:Nat), vs = [.int c, .int m] ∧ 1 ≤ m ∧ m ≤ 30 ∧ ∀ l H' (ns:List Str), H l = none -> Same H H' -> H' l = some (.lst (ns.map V.str)) -> ns.length = m -> (∀ n ∈ ns, GoodName n) -> Q (.ref l) H'
theorem scLNames:FnScope ["_law_cell", "_law_many_here", "_law_size", "_law_base", "_law_at", "_law_step"] ["_law_cell", "_law_many_here"] (defScope sLNames):=⟨rfl, rfl, rfl, by decide +kernel, rfl, by decide +kernel, by decide +kernel⟩
theorem mulL {a b:Int} (h0:0 ≤ a) (h1:a ≤ 10 ^ 18):CMul a b:=.inl ⟨by omega, by omega⟩
theorem mulR {a b:Int} (h0:0 ≤ b) (h1:b ≤ 10 ^ 18):CMul a b:=.inr ⟨by omega, by omega⟩
set_option maxHeartbeats 4000000 in
theorem ok_lnames {f g:Addr} (F:FunB K "_law_names" "_law_names" sLNames f ["_law_cell", "_law_many_here"]) (B:Blt mg) (G:FnP P w K mg base 1 g ["_law_number"] spSign) (hg:mg "_law_sign" = some (.ref g)):FnP P w K mg base 3 f ["_law_cell", "_law_many_here"] spLNames:=by
 refine F.ok scLNames (fun vs H Q E h=>?_) (fun cdv A outer s H vs Q E hr h=>?_)
 ·obtain ⟨c, m, rfl, _⟩:=h
  rfl
 ·obtain ⟨c, m, rfl, m1, m2, k⟩:=h
  have hr1:Room 1 _:=hr.mono (by decide)
  refine ⟨_, (pss_cons (ps_set (i:=0) scLNames.nd rfl (Or.inr rfl) (pe_op op_mod.letter (pv 0) pe_int))
   (pss_cons (ps_set (i:=2) scLNames.nd rfl (Or.inl rfl) (pe_op op_add.letter0 pe_int (pe_op op_mod (pe_op op_fdiv (pv 0) pe_int) pe_int)))
   (pss_cons (ps_if (pt_cmpR op_eq (pe_op op_mod (pe_op op_fdiv (pv 0) pe_int) pe_int) pe_int (nomark _)) (pss_one (ps_set (i:=2) scLNames.nd rfl (Or.inl rfl) (pe_op op_add.letter0 pe_int (pe_op op_mod (pe_op op_fdiv (pv 0) pe_int) pe_int)))) pss_nil)
   (pss_cons (ps_if (pt_cmpR op_eq (pe_op op_mod (pv 0) pe_int) pe_int (nomark _)) (pss_cons (ps_set (i:=3) scLNames.nd rfl (Or.inr rfl) (pe_bm PySem.F.plainAttrs_str PySem.F.slot_str_join PySem.F.type_str_join mt_join pe_str (pa_cons (pe_lc (N':=["_law_j", "_law_cell"]) (cap:=[none, some 0]) rfl rfl (pi_range1 rfl B.range (pa_cons pe_int pa_nil)) (fun _ _ _ _ _=>(pg_name (i:=0) (by decide +kernel:(["_law_j", "_law_cell"]:List Str).Nodup) rfl (Or.inl rfl))) (fun _ _ _ _ _=>pts_nil)
     (fun _ _ _ _ _=>(pe_callP G hr1 hg (pa_cons (pe_op op_add (pe_op op_mul (pv 1) (pe_op op_add (pv 0) pe_int)) (pe_op op_mul (pe_op op_mul pe_int (pv 0)) (pv 0))) pa_nil)))) pa_nil)))
   (pss_one (ps_ret (pe_lc (N':=["_law_k", "_law_base"]) (cap:=[none, some 3]) rfl rfl (pi_range1 rfl B.range (pa_cons (pv 1) pa_nil)) (fun _ _ _ _ _=>(pg_name (i:=0) (by decide +kernel:(["_law_k", "_law_base"]:List Str).Nodup) rfl (Or.inl rfl))) (fun _ _ _ _ _=>pts_nil)
     (fun _ _ _ _ _=>pe_slice sl_str (pv 1) po_none (po_some (pe_op op_add pe_int (pv 0)))))))) pss_nil)
   (pss_cons (ps_set (i:=4) scLNames.nd rfl (Or.inr rfl) (pe_op op_mod.letter (pe_op op_fdiv (pv 0) pe_int) (pv 2)))
   (pss_cons (ps_set (i:=5) scLNames.nd rfl (Or.inr rfl) (pe_op op_add.letter0 pe_int (pe_op op_mul pe_int (pe_op op_mod (pe_op op_fdiv (pv 0) pe_int) pe_int))))
   (pss_cons (ps_set (i:=3) scLNames.nd rfl (Or.inr rfl) (pe_bm PySem.F.plainAttrs_str PySem.F.slot_str_join PySem.F.type_str_join mt_join pe_str (pa_cons (pe_lc (N':=["_law_j", "_law_cell"]) (cap:=[none, some 0]) rfl rfl (pi_range1 rfl B.range (pa_cons (pv 2) pa_nil)) (fun _ _ _ _ _=>(pg_name (i:=0) (by decide +kernel:(["_law_j", "_law_cell"]:List Str).Nodup) rfl (Or.inl rfl))) (fun _ _ _ _ _=>pts_nil)
     (fun _ _ _ _ _=>(pe_callP G hr1 hg (pa_cons (pe_op op_add (pe_op op_mul (pv 1) (pe_op op_add (pe_op op_fdiv (pv 0) pe_int) pe_int)) (pe_op op_mul pe_int (pv 0))) pa_nil)))) pa_nil)))
   (pss_one (ps_ret (pe_lc (N':=["_law_k", "_law_base", "_law_at", "_law_cell", "_law_step"]) (cap:=[none, some 3, some 4, some 0, some 5]) rfl rfl (pi_range1 rfl B.range (pa_cons (pv 1) pa_nil)) (fun _ _ _ _ _=>(pg_name (i:=0) (by decide +kernel:(["_law_k", "_law_base", "_law_at", "_law_cell", "_law_step"]:List Str).Nodup) rfl (Or.inl rfl))) (fun _ _ _ _ _=>pts_nil)
     (fun _ _ _ _ _=>(pe_op op_add_str (pe_op op_add_str (pe_slice sl_str (pv 1) po_none (po_some (pv 2))) (pe_callP G hr1 hg (pa_cons (pe_op op_add (pv 3) (pe_op op_mul (pv 4) (pv 0))) pa_nil))) (pe_slice sl_str (pv 1) (po_some (pe_op op_add (pv 2) pe_int)) po_none))))))))))))), ?_⟩
  refine ⟨_, rfl, _, _, rfl, rfl, (by show (0:Int) < 1000003; decide), fun c' hc'=>?_⟩
  have c1:0 ≤ c':=by omega
  have c2:c' < 1000003:=by omega
  clear hc'
  refine ⟨_, rfl, _, _, rfl, rfl, ⟨by decide, by decide⟩, _, _, rfl, rfl, (by show (0:Int) < 6; decide), _, _, rfl, rfl, fun sz hsz=>?_⟩
  have hs:1 ≤ sz ∧ sz ≤ 40:=by omega
  clear hsz
  refine ⟨_, rfl, _, _, rfl, rfl, ⟨by decide, by decide⟩, _, _, rfl, rfl, (by show (0:Int) < 4; decide), rfl, _, rfl, ?_⟩
  refine ite2 (fun h40=>⟨_, rfl, _, _, rfl, rfl, ⟨by decide, by decide⟩, _, _, rfl, rfl, (by show (0:Int) < 40; decide), _, _, rfl, rfl, fun sz hsz=>?_⟩) (fun h6=>?_)
  all_goals
   have hs:1 ≤ sz ∧ sz ≤ 40:=by omega
   obtain ⟨z1, z2⟩:=hs
   refine ⟨_, rfl, _, _, rfl, rfl, (by show (0:Int) < 3; decide), rfl, _, rfl, ?_⟩
   refine ite2 (fun _=>?_) (fun _=>?_)
   ·-- beginnings of one text
    refine ⟨rfl, 40, rfl, by decide, by decide, ?_⟩
    refine lc_go 40 (fun i ys σ' H'=>∃ zs:List Str, ys = zs.map V.str ∧ zs.length = i ∧ (∀ z ∈ zs, Signs z ∧ z.length = 1) ∧ H' = H ∧ ∃ v, σ' = [v, some (.int c')]) ⟨[], rfl, rfl, by simp, rfl, none, rfl⟩ (by decide) (fun i ys σ' H' hi _=>hi) (fun _ _ _ _=>Nat.le_refl _) ?_ ?_
    ·rintro i ys σ' H' x H2 hi hl ⟨zs, rfl, hz, hg1, rfl, v, rfl⟩ ⟨rfl, rfl⟩
     refine ⟨_, rfl, _, rfl, _, _, rfl, rfl, _, _, rfl, rfl, mulL c1 (by omega), _, rfl, _, _, rfl, rfl, mulL (by decide) (by decide), _, rfl, _, _, rfl, rfl, mulR (by omega) (by omega), _, _, rfl, rfl, _, rfl, fun ch h1 h2=>?_⟩
     refine lcYes hi hl (by decide) ⟨zs ++ [⟨#[ch]⟩], by rw [List.map_append]; rfl, by rw [List.length_append, hz]; rfl, fun z hz2=>?_, rfl, _, rfl⟩
     rcases List.mem_append.mp hz2 with q | q
     ·exact hg1 z q
     ·rw [List.mem_singleton.mp q]; exact ⟨signs_one h1 h2, rfl⟩
    ·rintro ys σ' H' ⟨zs, rfl, hz, hg1, rfl, v, rfl⟩ p hp
     refine ⟨_, p, zs, rfl, rfl, SqL.of upd_same, ?_, ?_⟩
     ·rw [len_sum_ones fun a ha=>(hg1 a ha).2, hz]; decide
     have hb1:Signs (Txt.join ("":Str) zs):=signs_join fun a ha=>(hg1 a ha).1
     have hb2:(Txt.join ("":Str) zs).length = 40:=by rw [PySem.W.KT.join_ones _ fun a ha=>(hg1 a ha).2, hz]
     generalize Txt.join ("":Str) zs = bs at hb1 hb2 ⊢
     have Sm:=Same.upd (o:=.lst (zs.map V.str)) hp
     generalize upd H' p (.lst (zs.map V.str)) = H1 at Sm ⊢
     refine ⟨_, rfl, m, rfl, by omega, by omega, ?_⟩
     refine lc_go m (fun i ys σ' H2=>∃ ns:List Str, ys = ns.map V.str ∧ ns.length = i ∧ (∀ n ∈ ns, GoodName n) ∧ H2 = H1 ∧ ∃ v, σ' = [v, some (.str bs)]) ⟨[], rfl, rfl, by simp, rfl, none, rfl⟩ (Nat.le_trans m2 (by decide)) (fun i ys σ' H' hi _=>hi) (fun _ _ _ _=>Nat.le_refl _) ?_ ?_
     ·rintro i ys σ' H3 x H4 hi hl ⟨ns, rfl, hn, hgn, rfl, v, rfl⟩ ⟨rfl, rfl⟩
      refine ⟨_, rfl, _, rfl, _, _, rfl, rfl, _, rfl, bs, rfl, by rw [hb2]; decide, ?_⟩
      obtain ⟨s1, s2⟩:=signs_slice_to (x:=bs) (j:=1 + (0 + i)) (by omega) (by omega) hb1
      refine lcYes hi hl (Nat.le_trans m2 (by decide)) ⟨ns ++ [Txt.slice bs none (some (1 + (0 + i)))], by rw [List.map_append]; rfl, by rw [List.length_append, hn]; rfl, fun z hz2=>?_, rfl, _, rfl⟩
      rcases List.mem_append.mp hz2 with q | q
      ·exact hgn z q
      ·rw [List.mem_singleton.mp q]; exact ⟨by omega, by omega, s1⟩
     ·rintro ys σ' H3 ⟨ns, rfl, hn, hgn, rfl, v, rfl⟩ q hq
      exact k q _ ns (Sm.free hq) (Sm.trans (Same.upd hq)) upd_same hn hgn
   ·-- alike but at one place
    refine ⟨_, rfl, _, _, rfl, rfl, ⟨by decide, by decide⟩, _, rfl, _, _, rfl, rfl, (by show (0:Int) < _; omega), fun at_ hat'=>?_⟩
    have hat:0 ≤ at_ ∧ at_ < sz:=by rw [hat']; exact ⟨Int.emod_nonneg _ (by omega), Int.emod_lt_of_pos _ (by omega)⟩
    clear hat'
    refine ⟨_, rfl, _, _, rfl, rfl, ⟨by decide, by decide⟩, _, _, rfl, rfl, (by show (0:Int) < 2; decide), _, _, rfl, rfl, mulL (by decide) (by decide), _, _, rfl, rfl, fun st hst'=>?_⟩
    have hst:0 ≤ st ∧ st ≤ 32:=by omega
    clear hst'
    refine ⟨rfl, _, rfl, sz, rfl, by omega, by omega, ?_⟩
    refine lc_go sz.toNat (fun i ys σ' H'=>∃ zs:List Str, ys = zs.map V.str ∧ zs.length = i ∧ (∀ z ∈ zs, Signs z ∧ z.length = 1) ∧ H' = H ∧ ∃ v, σ' = [v, some (.int c')]) ⟨[], rfl, rfl, by simp, rfl, none, rfl⟩ (Nat.le_trans (show sz.toNat ≤ 40 by omega) (by decide)) (fun i ys σ' H' hi _=>hi) (fun _ _ _ _=>Nat.le_refl _) ?_ ?_
    ·rintro i ys σ' H' x H2 hi hl ⟨zs, rfl, hz, hg1, rfl, v, rfl⟩ ⟨rfl, rfl⟩
     refine ⟨_, rfl, _, rfl, _, _, rfl, rfl, ⟨by decide, by decide⟩, _, _, rfl, rfl, _, _, rfl, rfl, mulL c1 (by omega), _, rfl, _, _, rfl, rfl, mulL (by decide) (by decide), _, _, rfl, rfl, _, rfl, fun ch h1 h2=>?_⟩
     refine lcYes hi hl (Nat.le_trans (show sz.toNat ≤ 40 by omega) (by decide)) ⟨zs ++ [⟨#[ch]⟩], by rw [List.map_append]; rfl, by rw [List.length_append, hz]; rfl, fun z hz2=>?_, rfl, _, rfl⟩
     rcases List.mem_append.mp hz2 with q | q
     ·exact hg1 z q
     ·rw [List.mem_singleton.mp q]; exact ⟨signs_one h1 h2, rfl⟩
    ·rintro ys σ' H' ⟨zs, rfl, hz, hg1, rfl, v, rfl⟩ p hp
     refine ⟨_, p, zs, rfl, rfl, SqL.of upd_same, ?_, ?_⟩
     ·rw [len_sum_ones fun a ha=>(hg1 a ha).2, hz]
      show sz.toNat + zs.length * 0 ≤ 16777216
      omega
     have hb1:Signs (Txt.join ("":Str) zs):=signs_join fun a ha=>(hg1 a ha).1
     have hb2:((Txt.join ("":Str) zs).length:Int) = sz:=by rw [PySem.W.KT.join_ones _ fun a ha=>(hg1 a ha).2, hz]; omega
     generalize Txt.join ("":Str) zs = bs at hb1 hb2 ⊢
     have Sm:=Same.upd (o:=.lst (zs.map V.str)) hp
     generalize upd H' p (.lst (zs.map V.str)) = H1 at Sm ⊢
     have hbl:bs.length ≤ sizeLine:=Nat.le_trans (show bs.length ≤ 40 by omega) (by decide)
     refine ⟨_, rfl, m, rfl, by omega, by omega, ?_⟩
     refine lc_go m (fun i ys σ' H2=>∃ ns:List Str, ys = ns.map V.str ∧ ns.length = i ∧ (∀ n ∈ ns, GoodName n) ∧ H2 = H1 ∧ ∃ v, σ' = [v, some (.str bs), some (.int at_), some (.int c'), some (.int st)]) ⟨[], rfl, rfl, by simp, rfl, none, rfl⟩ (Nat.le_trans m2 (by decide)) (fun i ys σ' H' hi _=>hi) (fun _ _ _ _=>Nat.le_refl _) ?_ ?_
     ·rintro i ys σ' H3 x H4 hi hl ⟨ns, rfl, hn, hgn, rfl, v, rfl⟩ ⟨rfl, rfl⟩
      obtain ⟨s1, s2⟩:=signs_slice_to (x:=bs) (j:=at_) (by omega) (by omega) hb1
      obtain ⟨u1, u2⟩:=signs_slice_from (x:=bs) (i:=at_ + 1) (by omega) (by omega) hb1
      refine ⟨_, rfl, _, rfl, _, rfl, bs, rfl, hbl, _, rfl, _, rfl, _, rfl, _, _, rfl, rfl, mulL (by omega) (by omega), _, _, rfl, rfl, _, rfl, fun ch h1 h2=>?_⟩
      refine ⟨_, _, rfl, rfl, Nat.le_trans (show (Txt.slice bs none (some at_)).length + 1 ≤ 41 by omega) (by decide), _, rfl, _, rfl, _, _, rfl, rfl, _, rfl, bs, rfl, hbl, _, _, rfl, rfl, ?_, ?_⟩
      ·rw [PySem.Str.length_append, s2, u2]
       exact Nat.le_trans (show at_.toNat + 1 + (bs.length - (at_ + 1).toNat) ≤ 41 by omega) (by decide)
      ·refine lcYes hi hl (Nat.le_trans m2 (by decide)) ⟨ns ++ [Txt.slice bs none (some at_) ++ ⟨#[ch]⟩ ++ Txt.slice bs (some (at_ + 1)) none], by rw [List.map_append]; rfl, by rw [List.length_append, hn]; rfl, fun z hz2=>?_, rfl, _, rfl⟩
       rcases List.mem_append.mp hz2 with q | q
       ·exact hgn z q
       ·rw [List.mem_singleton.mp q]
        refine ⟨?_, ?_, signs_app (signs_app s1 (signs_one h1 h2)) u1⟩
        ·rw [PySem.Str.length_append, PySem.Str.length_append, s2, u2]
         show 1 ≤ at_.toNat + 1 + _
         omega
        ·rw [PySem.Str.length_append, PySem.Str.length_append, s2, u2]
         show at_.toNat + 1 + (bs.length - (at_ + 1).toNat) ≤ 40
         omega
     ·rintro ys σ' H3 ⟨ns, rfl, hn, hgn, rfl, v, rfl⟩ q hq
      exact k q _ ns (Sm.free hq) (Sm.trans (Same.upd hq)) upd_same hn hgn
end
end Lk

namespace Lk
open PySem L2
inductive Dd where
 | ask (n:Str) (w:Int) | rest (k:Int) | drop (n:Str)
def Dd.v:Dd -> List V
 | .ask n w=>[.str "ask", .str n, .int w]
 | .rest k=>[.str "rest", .str "", .int k]
 | .drop n=>[.str "drop", .str n, .int 0]
def GoodD (ns:List Str):Dd -> Prop
 | .ask n w=>n ∈ ns ∧ 1 ≤ w ∧ w ≤ 10 ^ 30
 | .rest k=>0 ≤ k ∧ k ≤ 10 ^ 30
 | .drop n=>n ∈ ns
section
variable {P:Program} {w:World} {K:PySem.W.Frag} {mg:Str -> Option Value} {base:Heap}
def spDeed (K:PySem.W.Frag):Sp:=fun vs H Q _=>∃ (c:Int) (k:Nat) (l:Addr) (ns:List Str) (sp lt:Int), vs = [.int c, .int k, .ref l, .int sp, .int lt] ∧ k ≤ 1000 ∧ SqL K H l (ns.map V.str) ∧ ns ≠ [] ∧ 1 ≤ sp ∧ sp ≤ 10 ^ 20 ∧ 0 ≤ lt ∧ lt < 3 ∧
 ∀ q H' d, H q = none -> Same H H' -> H' q = some (.tup (Dd.v d)) -> GoodD ns d -> Q (.ref q) H'
theorem scDeed:FnScope ["_law_cell", "_law_k", "_law_names_here", "_law_span_here", "_law_light", "_law_mixed", "_law_name"] ["_law_cell", "_law_k", "_law_names_here", "_law_span_here", "_law_light"] (defScope sDeed):=⟨rfl, rfl, rfl, by decide +kernel, rfl, by decide +kernel, by decide +kernel⟩
set_option maxHeartbeats 4000000 in
theorem ok_deed {f:Addr} (F:FunB K "_law_deed" "_law_deed" sDeed f ["_law_cell", "_law_k", "_law_names_here", "_law_span_here", "_law_light"]) (B:Blt mg):FnP P w K mg base 1 f ["_law_cell", "_law_k", "_law_names_here", "_law_span_here", "_law_light"] (spDeed K):=by
 refine F.ok scDeed (fun vs H Q E h=>?_) (fun cdv A outer s H vs Q E hr h=>?_)
 ·obtain ⟨c, k, l, ns, sp, lt, rfl, _⟩:=h
  rfl
 ·obtain ⟨c, k, l, ns, sp, lt, rfl, hk, hS, hne, sp1, sp2, l0, l3, kk⟩:=h
  refine ⟨_, (pss_cons (ps_set (i:=5) scDeed.nd rfl (Or.inl rfl) (pe_op op_mod.letter (pe_op op_add (pe_op op_add (pe_op op_mul (pv 0) pe_int) (pe_op op_mul (pe_op op_mul (pv 1) (pv 1)) pe_int)) pe_int) pe_int))
   (pss_cons (ps_set (i:=6) scDeed.nd rfl (Or.inl rfl) (pe_ix ix_list (pv 2) (pe_op op_mod.letter (pe_op op_fdiv (pv 5) pe_int) (pe_callB call_len_seq rfl B.len PySem.boot_len (pa_cons (pv 2) pa_nil))) (fun _ _=>rfl)))
   (pss_cons (ps_if (pt_cmpR op_eq (pe_op op_mod (pv 5) pe_int) pe_int (nomark _)) (pss_one (ps_ret (pe_tup (pa_cons pe_str (pa_cons (pv 6) (pa_cons pe_int pa_nil)))))) pss_nil)
   (pss_cons (ps_if (PW.pt (pw_and (pt_cmpR op_eq (pe_op op_mod (pv 5) pe_int) pe_int (nomark _)) (pw_and1 (pt_cmpR op_eq (pe_op op_mod (pv 0) pe_int) pe_int (nomark _))))) (pss_one (ps_ret (pe_tup (pa_cons pe_str (pa_cons pe_str (pa_cons (pe_op op_mod.letter (pe_op op_fdiv (pv 0) pe_int) (pe_op op_add (pe_op op_pow pe_int pe_int) pe_int)) pa_nil)))))) pss_nil)
   (pss_cons (ps_if (pt_cmpR op_eq (pe_op op_mod (pv 5) pe_int) pe_int (nomark _)) (pss_one (ps_ret (pe_tup (pa_cons pe_str (pa_cons pe_str (pa_cons (pe_op op_mod.letter (pe_op op_fdiv (pv 0) pe_int) (pe_op op_add.letter0 (pe_op op_mul pe_int (pv 3)) pe_int)) pa_nil)))))) pss_nil)
   (pss_one (ps_ret (pe_tup (pa_cons pe_str (pa_cons (pv 6) (pa_cons (pe_ix ix_list (pe_lst (pa_cons pe_int (pa_cons (pe_op op_add.letter0 pe_int (pe_op op_mod (pv 0) pe_int)) (pa_cons (pe_op op_add.letter0 pe_int (pe_op op_mod (pv 0) (pe_op op_pow pe_int pe_int))) pa_nil)))) (pv 4) (fun _ _=>rfl)) pa_nil))))))))))), ?_⟩
  refine ⟨_, rfl, _, _, rfl, rfl, mulR (by decide) (by decide), _, rfl, _, rfl, _, _, rfl, rfl, mulL (by omega) (by omega), _, _, rfl, rfl, mulR (by decide) (by decide), _, _, rfl, rfl, _, _, rfl, rfl, _, _, rfl, rfl, (by show (0:Int) < 2147483647; decide), fun mx hmx=>?_⟩
  have m0:0 ≤ mx:=by omega
  clear hmx
  have hlen:0 < ns.length:=List.length_pos_iff.mpr hne
  refine ⟨_, rfl, _, rfl, _, _, rfl, rfl, ⟨by decide, by decide⟩, _, rfl, l, _, rfl, .inl hS, _, _, rfl, rfl, (by show (0:Int) < ((ns.map V.str).length:Nat); rw [List.length_map]; omega), fun ix hix=>?_⟩
  have i0:0 ≤ ix ∧ ix < ns.length:=by
   rw [hix, List.length_map]
   exact ⟨Int.emod_nonneg _ (by omega), Int.emod_lt_of_pos _ (by omega)⟩
  clear hix
  obtain ⟨j, rfl⟩:=Int.eq_ofNat_of_zero_le i0.1
  have hj:j < ns.length:=by omega
  have hnm:ns[j] ∈ ns:=List.getElem_mem _
  refine ⟨l, _, _, .str ns[j], rfl, rfl, hS, atI_nat (by simp [hj]), ?_⟩
  generalize ns[j] = nm at hnm ⊢
  have small:∀ xs:List V, xs.length = 3 -> xs.length ≤ sizeLine:=fun xs h=>by rw [h]; decide
  refine ⟨_, rfl, _, _, rfl, rfl, (by first | (show (0:Int) < 8; decide) | (show (0:Int) < 16; decide)), rfl, _, rfl, ?_⟩
  refine ite2 (fun _=>?_) (fun _=>?_)
  ·refine ⟨_, rfl, small _ rfl, fun q hq=>?_⟩
   exact kk q _ (.drop nm) hq (Same.upd hq) upd_same hnm
  refine ⟨_, rfl, _, _, rfl, rfl, (by first | (show (0:Int) < 8; decide) | (show (0:Int) < 16; decide)), rfl, _, rfl, ?_⟩
  have rest1:∀ (z:Int) (q:Addr), 0 ≤ z -> z ≤ 10 ^ 30 -> H q = none -> Q (.ref q) (upd H q (.tup [.str "rest", .str "", .int z])):=fun z q h0 h1 hq=>kk q _ (.rest z) hq (Same.upd hq) upd_same ⟨h0, h1⟩
  refine ite2 (fun _=>⟨_, rfl, _, _, rfl, rfl, (by show (0:Int) < 3; decide), rfl, _, rfl, ite2 (fun _=>?far) (fun _=>?_)⟩) (fun _=>iteF ?_)
  case far=>
   refine ⟨_, rfl, _, _, rfl, rfl, ⟨by decide, by decide⟩, _, _, rfl, rfl, pow_ok _ (by decide) (by decide), _, _, rfl, rfl, _, _, rfl, rfl, (by show (0:Int) < 10 ^ Int.toNat 30 + 1; decide), fun z hz=>⟨small _ rfl, fun q hq=>?_⟩⟩
   have hz':z = c / 3 % 1000000000000000000000000000001:=by rw [hz, p30]; rfl
   exact rest1 z q (by omega) (by omega) hq
  all_goals
   refine ⟨_, rfl, _, _, rfl, rfl, (by first | (show (0:Int) < 8; decide) | (show (0:Int) < 16; decide)), rfl, _, rfl, ?_⟩
   refine ite2 (fun _=>?_) (fun _=>?_)
   ·refine ⟨_, rfl, _, _, rfl, rfl, ⟨by decide, by decide⟩, _, rfl, _, _, rfl, rfl, mulL (by decide) (by decide), _, _, rfl, rfl, fun y hy=>⟨_, _, rfl, rfl, (by show (0:Int) < y; omega), fun z hz=>⟨small _ rfl, fun q hq=>?_⟩⟩⟩
    have h0:=Int.emod_nonneg (c / 3) (show y ≠ 0 by omega)
    have h1:=Int.emod_lt_of_pos (c / 3) (show (0:Int) < y by omega)
    exact rest1 z q (by omega) (by omega) hq
   ·refine ⟨_, rfl, _, rfl, _, _, rfl, rfl, (by show (0:Int) < 4; decide), _, _, rfl, rfl, fun w1 hw1=>⟨_, rfl, _, _, rfl, rfl, pow_ok _ (by decide) (by decide), _, _, rfl, rfl, (by show (0:Int) < 10 ^ Int.toNat 30; decide), _, _, rfl, rfl, fun w2 hw2=>⟨small _ rfl, fun p hp=>?_⟩⟩⟩
    have hw2':w2 = 1 + c % 1000000000000000000000000000000:=by rw [hw2, p30]
    have hv:∃ wt:Int, atI [V.int 1, .int w1, .int w2] lt = some (.int wt) ∧ 1 ≤ wt ∧ wt ≤ 10 ^ 30:=by
     have:lt = 0 ∨ lt = 1 ∨ lt = 2:=by omega
     rcases this with e | e | e
     ·subst e; exact ⟨1, rfl, by decide, by decide⟩
     ·subst e; exact ⟨w1, rfl, by omega, by omega⟩
     ·subst e; exact ⟨w2, rfl, by omega, by omega⟩
    obtain ⟨wt, hat, wt1, wt2⟩:=hv
    refine ⟨_, rfl, p, _, lt, _, rfl, rfl, SqL.of upd_same, hat, small _ rfl, fun q hq=>?_⟩
    exact kk q _ (.ask nm wt) ((Same.upd hp).free hq) ((Same.upd hp).trans (Same.upd hq)) upd_same ⟨hnm, wt1, wt2⟩
end
end Lk

namespace Lk
open PySem L2
section
variable {P:Program} {w:World} {K:PySem.W.Frag} {mg:Str -> Option Value} {base:Heap}
def spDo (C:Addr) (spA spR spD:Sp):Sp:=fun vs H Q _=>∃ (p q dx:Addr) (d:Dd) (fs:List (Str × V)), vs = [.ref p, .ref q] ∧ H q = some (.tup (Dd.v d)) ∧ H p = some (.ins C dx fs) ∧ fs.lookup ("ask":Str) = none ∧ fs.lookup ("rest":Str) = none ∧ fs.lookup ("drop":Str) = none ∧
 match d with
 | .ask n w=>spA [.ref p, .str n, .int w] H Q E0
 | .rest k=>spR [.ref p, .int k] H Q E0
 | .drop n=>spD [.ref p, .str n] H Q E0
theorem scDo:FnScope ["_law_thing", "_law_deed_here"] ["_law_thing", "_law_deed_here"] (defScope sDo):=⟨rfl, rfl, rfl, by decide +kernel, rfl, by decide +kernel, by decide +kernel⟩
theorem ok_do {f ga gr gd C:Addr} {fd:FuncData} {t0:Tok} {k:Nat} {spA spR spD:Sp} (F:FunB K "_law_do" "_law_do" sDo f ["_law_thing", "_law_deed_here"]) (cl:Cls K C) (Ga:FnOk P w K mg base CX0 k ga fd ["self", "name", "weight"] spA) (hb0:Binds K fd ["self", "name", "weight"] []) (hb1:Binds K fd ["self", "name", "weight"] [.int 1 t0]) (Ma:Meth K C "ask" ga)
  (Gr:FnP P w K mg base k gr ["self", "steps"] spR) (Mr:Meth K C "rest" gr) (Gd:FnP P w K mg base k gd ["self", "name"] spD) (Md:Meth K C "drop" gd):FnP P w K mg base (k + 1) f ["_law_thing", "_law_deed_here"] (spDo C spA spR spD):=by
 have hk:k ≤ k:=Nat.le_refl _
 refine F.ok scDo (fun vs H Q E h=>?_) (fun cdv A outer s H vs Q E hr h=>?_)
 ·obtain ⟨p, q, dx, d, fs, rfl, _⟩:=h
  rfl
 ·obtain ⟨p, q, dx, d, fs, rfl, hq, hp, n1, n2, n3, k⟩:=h
  refine ⟨_, (pss_cons (ps_if (pt_cmpR op_eq (pe_ix ix_tup (pv 1) pe_int (fun _ _=>rfl)) pe_str (nomark _)) (pss_one (ps_ret (pe_methP (pv 0) cl Mr Gr (hr.mono hk) (pa_cons (pe_ix ix_tup (pv 1) pe_int (fun _ _=>rfl)) pa_nil)))) pss_nil)
   (pss_cons (ps_if (pt_cmpR op_eq (pe_ix ix_tup (pv 1) pe_int (fun _ _=>rfl)) pe_str (nomark _)) (pss_one (ps_ret (pe_methP (pv 0) cl Md Gd (hr.mono hk) (pa_cons (pe_ix ix_tup (pv 1) pe_int (fun _ _=>rfl)) pa_nil)))) pss_nil)
   (pss_cons (ps_if (pt_cmpR op_eq (pe_ix ix_tup (pv 1) pe_int (fun _ _=>rfl)) pe_int (nomark _)) (pss_one (ps_ret (pe_meth (pv 0) cl Ma Ga (hr.mono hk) hb1 (show Vals [V.int 1] [Value.int 1 t0] from .cons ⟨t0, rfl⟩ .nil) pass0 (pa_cons (pe_ix ix_tup (pv 1) pe_int (fun _ _=>rfl)) pa_nil)))) pss_nil)
   (pss_one (ps_ret (pe_meth (pv 0) cl Ma Ga (hr.mono hk) hb0 .nil pass0 (pa_cons (pe_ix ix_tup (pv 1) pe_int (fun _ _=>rfl)) (pa_cons (pe_ix ix_tup (pv 1) pe_int (fun _ _=>rfl)) pa_nil)))))))), ?_⟩
  cases d with
  | rest z=>
    refine ⟨_, rfl, q, _, _, _, rfl, rfl, SqT.of hq, rfl, rfl, _, rfl, ?_⟩
    refine iteT ?_
    exact ⟨_, rfl, p, dx, fs, rfl, hp, n2, _, rfl, q, _, _, _, rfl, rfl, SqT.of hq, rfl, k⟩
  | drop n=>
    refine ⟨_, rfl, q, _, _, _, rfl, rfl, SqT.of hq, rfl, rfl, _, rfl, ?_⟩
    refine iteF ?_
    refine ⟨_, rfl, q, _, _, _, rfl, rfl, SqT.of hq, rfl, rfl, _, rfl, ?_⟩
    refine iteT ?_
    exact ⟨_, rfl, p, dx, fs, rfl, hp, n3, _, rfl, q, _, _, _, rfl, rfl, SqT.of hq, rfl, k⟩
  | ask n w=>
    refine ⟨_, rfl, q, _, _, _, rfl, rfl, SqT.of hq, rfl, rfl, _, rfl, ?_⟩
    refine iteF ?_
    refine ⟨_, rfl, q, _, _, _, rfl, rfl, SqT.of hq, rfl, rfl, _, rfl, ?_⟩
    refine iteF ?_
    refine ⟨_, rfl, q, _, _, _, rfl, rfl, SqT.of hq, rfl, rfl, _, rfl, ?_⟩
    refine ite2 (fun h1=>?_) (fun _=>?_)
    ·have h1:w = 1:=V.int.inj (of_decide_eq_true h1)
     subst h1
     exact ⟨_, rfl, p, dx, fs, rfl, hp, n1, _, rfl, q, _, _, _, rfl, rfl, SqT.of hq, rfl, k⟩
    ·exact ⟨_, rfl, p, dx, fs, rfl, hp, n1, _, rfl, q, _, _, _, rfl, rfl, SqT.of hq, rfl, _, rfl, q, _, _, _, rfl, rfl, SqT.of hq, rfl, k⟩
end
end Lk

namespace Lk
open PySem L2
theorem findE_cons (x:Str × Int × Int) (r:List (Str × Int × Int)) (n:Str):findE (x :: r) n = if x.1 = n then some x else findE r n:=by
 unfold findE
 rw [List.find?_cons]
 by_cases h:x.1 = n
 ·rw [decide_eq_true h, if_pos h]
 ·rw [decide_eq_false h, if_neg h]
theorem ageE_cons (x:Str × Int × Int) (r:List (Str × Int × Int)) (p t:Int):ageE (x :: r) p t = if 0 < agedI x.2.1 p t then oldE p t x :: ageE r p t else ageE r p t:=by
 unfold ageE
 rw [List.filter_cons]
 by_cases h:0 < agedI x.2.1 p t
 ·rw [if_pos h, if_pos (show stayE p t x = true from decide_eq_true h)]; rfl
 ·rw [if_neg h, if_neg (show ¬ stayE p t x = true by unfold stayE; simp only [decide_eq_true_eq]; exact h)]
theorem findE_age {p t:Int} {n:Str}:∀ {es:List (Str × Int × Int)}, (namesOf es).Nodup -> findE (ageE es p t) n = match findE es n with
  | some e=>if 0 < agedI e.2.1 p t then some (oldE p t e) else none
  | none=>none
 | [], _=>rfl
 | x :: r, h=>by
   have hn:x.1 ∉ namesOf r:=(List.nodup_cons.mp h).1
   have ih:=findE_age (p:=p) (t:=t) (n:=n) (List.nodup_cons.mp h).2
   rw [ageE_cons, findE_cons x r]
   by_cases e:x.1 = n
   ·rw [if_pos e]
    have hr:findE (ageE r p t) n = none:=findE_none (fun z=>hn (by rw [e]; exact ageE_names z))
    by_cases h2:0 < agedI x.2.1 p t
    ·rw [if_pos h2, findE_cons, if_pos (show (oldE p t x).1 = n from e)]; show _ = (if _ then _ else _); rw [if_pos h2]
    ·rw [if_neg h2, hr]; show _ = (if _ then _ else _); rw [if_neg h2]
   ·rw [if_neg e, ← ih]
    by_cases h2:0 < agedI x.2.1 p t
    ·rw [if_pos h2, findE_cons, if_neg (show ¬ (oldE p t x).1 = n from e)]
    ·rw [if_neg h2]
theorem findE_append (a b:List (Str × Int × Int)) (n:Str):findE (a ++ b) n = match findE a n with | some e=>some e | none=>findE b n:=by
 unfold findE
 rw [List.find?_append]
 cases a.find? fun e=>decide (e.1 = n) <;> rfl
theorem findE_mapG {n m:Str} {w d:Int}:∀ {es:List (Str × Int × Int)}, findE (es.map fun e=>if e.1 = n then (e.1, e.2.1 + w, d) else e) m = (findE es m).map fun e=>if e.1 = n then (e.1, e.2.1 + w, d) else e
 | []=>rfl
 | x :: r=>by
   rw [List.map_cons, findE_cons, findE_cons, findE_mapG (es:=r)]
   have:(if x.1 = n then (x.1, x.2.1 + w, d) else x).1 = x.1:=by
    by_cases h:x.1 = n
    ·rw [if_pos h]
    ·rw [if_neg h]
   rw [this]
   by_cases h:x.1 = m
   ·rw [if_pos h, if_pos h]; rfl
   ·rw [if_neg h, if_neg h]
theorem findE_grow {es:List (Str × Int × Int)} {n m:Str} {w d:Int}:findE (growE es n w d) m = if m = n then some (n, ((findE es n).map (·.2.1)).getD 0 + w, d) else findE es m:=by
 cases e:findE es n with
 | none=>
   rw [growE_none e, findE_append]
   by_cases h:m = n
   ·subst h
    rw [if_pos rfl, e]
    show findE [(m, w, d)] m = _
    rw [findE_cons, if_pos rfl]
    simp
   ·rw [if_neg h]
    cases q:findE es m with
    | some x=>rfl
    | none=>
      show findE [(n, w, d)] m = none
      rw [findE_cons, if_neg (fun z=>h z.symm)]
      rfl
 | some x=>
   have hx:=(findE_some e).1
   unfold growE
   rw [e]
   show findE (es.map fun e=>if e.1 = n then (e.1, e.2.1 + w, d) else e) m = _
   rw [findE_mapG]
   by_cases h:m = n
   ·subst h
    rw [if_pos rfl, e]
    show some (if x.1 = m then _ else _) = _
    rw [if_pos hx, hx]
    rfl
   ·rw [if_neg h]
    cases q:findE es m with
    | none=>rfl
    | some y=>
      show some (if y.1 = n then _ else _) = _
      rw [if_neg (fun z=>h (by rw [← (findE_some q).1]; exact z))]
structure Core (S:BS) (k:Nat):Prop where
 nd:(namesOf S.ents).Nodup
 pos:∀ e ∈ S.ents, 0 < e.2.1 ∧ e.2.1 ≤ k * 10 ^ 30 ∧ 1 ≤ e.2.2 ∧ e.2.2 ≤ k
 inj:∀ a ∈ S.ents, ∀ b ∈ S.ents, a.2.2 = b.2.2 -> a.1 = b.1
 few:S.ents.length ≤ k
theorem ageE_mem {es:List (Str × Int × Int)} {p t:Int} {e:Str × Int × Int} (h:e ∈ ageE es p t):∃ x ∈ es, e = oldE p t x ∧ 0 < agedI x.2.1 p t:=by
 obtain ⟨x, hx, rfl⟩:=List.mem_map.mp h
 obtain ⟨h1, h2⟩:=List.mem_filter.mp hx
 exact ⟨x, h1, rfl, of_decide_eq_true h2⟩
theorem Core.age {S:BS} {k:Nat} (h:Core S k) {p t:Int}:Core { S with ents:=ageE S.ents p t } k where
 nd:=by
  have:(namesOf (ageE S.ents p t)).Sublist (namesOf S.ents):=by
   unfold namesOf ageE
   rw [List.map_map]
   exact List.filter_sublist.map (fun e:Str × Int × Int=>e.1)
  exact this.nodup h.nd
 pos:=fun e he=>by
  obtain ⟨x, hx, rfl, hp⟩:=ageE_mem he
  obtain ⟨h1, h2, h3, h4⟩:=h.pos x hx
  have:=agedI_le (p:=p) (t:=t) (Int.le_of_lt h1)
  refine ⟨hp, ?_, h3, h4⟩
  show agedI x.2.1 p t ≤ _
  omega
 inj:=fun a ha b hb e=>by
  obtain ⟨x, hx, rfl, _⟩:=ageE_mem ha
  obtain ⟨y, hy, rfl, _⟩:=ageE_mem hb
  exact h.inj x hx y hy e
 few:=by
  refine Nat.le_trans ?_ h.few
  show (ageE S.ents p t).length ≤ _
  unfold ageE
  rw [List.length_map]
  exact List.length_filter_le _ _
theorem Core.pass {S:BS} {k:Nat} (h:Core S k) {st:Int}:Core (passS S st) k:=by
 by_cases ht:0 < timesOf S st
 ·have:=h.age (p:=S.part) (t:=timesOf S st)
  refine ⟨?_, ?_, ?_, ?_⟩
  all_goals
   unfold passS
   dsimp only
   rw [if_pos ht]
  ·exact this.nd
  ·exact this.pos
  ·exact this.inj
  ·exact this.few
 ·refine ⟨?_, ?_, ?_, ?_⟩
  all_goals
   unfold passS
   dsimp only
   rw [if_neg ht]
  ·exact h.nd
  ·exact h.pos
  ·exact h.inj
  ·exact h.few
theorem Core.up {S:BS} {k:Nat} (h:Core S k):Core S (k + 1) where
 nd:=h.nd
 pos:=fun e he=>by
  obtain ⟨h1, h2, h3, h4⟩:=h.pos e he
  refine ⟨h1, by push_cast; omega, h3, by push_cast; omega⟩
 inj:=h.inj
 few:=Nat.le_succ_of_le h.few
theorem Core.of {S S':BS} {k:Nat} (h:Core S k) (e:S'.ents = S.ents):Core S' k:=⟨by rw [e]; exact h.nd, by rw [e]; exact h.pos, by rw [e]; exact h.inj, by rw [e]; exact h.few⟩
theorem growE_mem {es:List (Str × Int × Int)} {n:Str} {w d:Int} {e:Str × Int × Int} (h:e ∈ growE es n w d):(e ∈ es ∧ e.1 ≠ n) ∨ (e.1 = n ∧ e.2.2 = d ∧ (e.2.1 = w ∨ ∃ x ∈ es, e.2.1 = x.2.1 + w)):=by
 cases q:findE es n with
 | none=>
   rw [growE_none q] at h
   rcases List.mem_append.mp h with z | z
   ·exact .inl ⟨z, fun he=>findE_isNone q (List.mem_map.mpr ⟨e, z, he⟩)⟩
   ·rw [List.mem_singleton.mp z]
    exact .inr ⟨rfl, rfl, .inl rfl⟩
 | some x=>
   unfold growE at h
   rw [q] at h
   obtain ⟨y, hy, rfl⟩:=List.mem_map.mp h
   by_cases e:y.1 = n
   ·rw [if_pos e]
    exact .inr ⟨e, rfl, .inr ⟨y, hy, rfl⟩⟩
   ·rw [if_neg e]
    exact .inl ⟨hy, e⟩
theorem growE_names {es:List (Str × Int × Int)} {n:Str} {w d:Int}:namesOf (growE es n w d) = if n ∈ namesOf es then namesOf es else namesOf es ++ [n]:=by
 cases q:findE es n with
 | none=>
   rw [growE_none q, if_neg (findE_isNone q)]
   unfold namesOf
   rw [List.map_append]
   rfl
 | some x=>
   have hm:n ∈ namesOf es:=List.mem_map.mpr ⟨x, findE_mem q, (findE_some q).1⟩
   rw [if_pos hm]
   unfold growE
   rw [q]
   show namesOf (es.map _) = _
   unfold namesOf
   rw [List.map_map]
   refine List.map_congr_left fun y hy=>?_
   show (if y.1 = n then _ else _:Str × Int × Int).1 = y.1
   by_cases e:y.1 = n
   ·rw [if_pos e]
   ·rw [if_neg e]
theorem Core.grow {S:BS} {k:Nat} (h:Core S k) {n:Str} {w:Int} (w1:1 ≤ w) (w2:w ≤ 10 ^ 30):Core { S with ents:=growE S.ents n w ((k + 1:Nat):Int) } (k + 1) where
 nd:=by
  show (namesOf (growE S.ents n w _)).Nodup
  rw [growE_names]
  by_cases hm:n ∈ namesOf S.ents
  ·rw [if_pos hm]; exact h.nd
  ·rw [if_neg hm, List.nodup_append]
   exact ⟨h.nd, by simp, fun a ha b hb z=>hm (by rw [List.mem_singleton.mp hb] at z; rw [← z]; exact ha)⟩
 pos:=fun e he=>by
  rcases growE_mem he with ⟨z, _⟩ | ⟨_, e2, e3⟩
  ·obtain ⟨h1, h2, h3, h4⟩:=h.pos e z
   exact ⟨h1, by push_cast; omega, h3, by push_cast; omega⟩
  ·rw [e2]
   rcases e3 with e3 | ⟨x, hx, e3⟩
   ·rw [e3]
    exact ⟨by omega, by push_cast; omega, by push_cast; omega, Int.le_refl _⟩
   ·obtain ⟨h1, h2, h3, h4⟩:=h.pos x hx
    rw [e3]
    exact ⟨by omega, by push_cast; omega, by push_cast; omega, Int.le_refl _⟩
 inj:=fun a ha b hb e=>by
  rcases growE_mem ha with ⟨za, _⟩ | ⟨a1, a2, _⟩
  ·rcases growE_mem hb with ⟨zb, _⟩ | ⟨b1, b2, _⟩
   ·exact h.inj a za b zb e
   ·have:=(h.pos a za).2.2.2
    rw [e, b2] at this
    push_cast at this
    omega
  ·rcases growE_mem hb with ⟨zb, _⟩ | ⟨b1, b2, _⟩
   ·have:=(h.pos b zb).2.2.2
    rw [← e, a2] at this
    push_cast at this
    omega
   ·rw [a1, b1]
 few:=by
  show (growE S.ents n w _).length ≤ _
  have:=h.few
  unfold growE
  cases findE S.ents n with
  | none=>show (S.ents ++ _).length ≤ _; rw [List.length_append]; show _ + 1 ≤ _; omega
  | some x=>show (S.ents.map _).length ≤ _; rw [List.length_map]; omega
def stepB (S:BS):Dd -> BS
 | .ask n w=>askS S n w
 | .rest k=>passS (deedS S) k
 | .drop _=>deedS S
end Lk

namespace Lk
open PySem L2
abbrev sShelf:Stmt:=top 22
abbrev sSInit:Stmt:=inClass sShelf 0
abbrev sSAsk:Stmt:=inClass sShelf 1
abbrev sSDrop:Stmt:=inClass sShelf 2
abbrev sSNames:Stmt:=inClass sShelf 3
abbrev sTakeIn:Stmt:=inClass sShelf 6
abbrev sTakeOff:Stmt:=inClass sShelf 7
abbrev sSFade:Stmt:=inClass sShelf 8
abbrev sCkPlaces:Stmt:=top 12
structure Going where
 deed:Int
 name:Str
 why:Str
 count:Int
 last:Int
def Going.v (g:Going):List V:=[.int g.deed, .str g.name, .str g.why, .int g.count, .int g.last]
structure ShS where
 places:Int
 stand:List Str
 gone:List Going
def tabS (ns:List Str):List (Key × V):=ns.map fun n=>(Sum.inr n, .bl true)
def offS (t:ShS) (d:Int) (n r:Str) (c l:Int):ShS:={ t with stand:=t.stand.filter fun m=>decide (m ≠ n), gone:=t.gone ++ [⟨d, n, r, c, l⟩] }
def inS (t:ShS) (n:Str):ShS:={ t with stand:=t.stand ++ [n] }
def fadeS:Int -> Str -> Int -> ShS -> ShS:=fun d n l t=>if n ∈ t.stand then offS t d n "faded" 0 l else t
structure StandOn (ds gl:Addr) (t:ShS) (H:Hp):Prop where
 st:H ds = some (.dK (tabS t.stand))
 gn:∃ ts:List Addr, H gl = some (.lst (ts.map V.ref)) ∧ ts.length = t.gone.length ∧ ∀ (j:Nat) (a:Addr) (g:Going), ts[j]? = some a -> t.gone[j]? = some g -> H a = some (.tup g.v)
 nd:t.stand.Nodup
 few:t.gone.length + t.stand.length ≤ 1000
def shelfK (C p dc dl ds gl:Addr):Kd ShS:=⟨C, p, dc, dl, fun t=>[("places", .int t.places), ("standing", .ref ds), ("gone", .ref gl)], StandOn ds gl, fun b=>b = p ∨ b = dc ∨ b = dl ∨ b = ds ∨ b = gl⟩
theorem StandOn.fr {p dc dl ds gl:Addr} {t:ShS} {H H':Hp} (h:StandOn ds gl t H) (n1:ds ≠ p ∧ ds ≠ dc ∧ ds ≠ dl) (n2:gl ≠ p ∧ gl ≠ dc ∧ gl ≠ dl)
  (k:∀ b o, H b = some o -> (b = p ∨ b = dc ∨ b = dl ∨ b = ds ∨ b = gl) -> b ≠ p -> b ≠ dc -> b ≠ dl -> H' b = some o) (kt:∀ b xs, H b = some (.tup xs) -> H' b = some (.tup xs)):StandOn ds gl t H':=by
 obtain ⟨h1, ⟨ts, h2, h3, h4⟩, h5, h6⟩:=h
 exact ⟨k _ _ h1 (.inr (.inr (.inr (.inl rfl)))) n1.1 n1.2.1 n1.2.2, ⟨ts, k _ _ h2 (.inr (.inr (.inr (.inr rfl)))) n2.1 n2.2.1 n2.2.2, h3, fun j a g e1 e2=>kt _ _ (h4 j a g e1 e2)⟩, h5, h6⟩
structure ShIs (C:Addr) (κ:Kd ShS) (p dc dl ds gl:Addr):Prop where
 eq:κ = shelfK C p dc dl ds gl
 n0:dc ≠ dl
 n1:ds ≠ p ∧ ds ≠ dc ∧ ds ≠ dl
 n2:gl ≠ p ∧ gl ≠ dc ∧ gl ≠ dl
 n3:ds ≠ gl
def shelves (C:Addr):Objs ShS C where
 is:=fun κ=>∃ p dc dl ds gl, ShIs C κ p dc dl ds gl
 ok:=by
  rintro κ ⟨p, dc, dl, ds, gl, rfl, n0, n1, n2, n3⟩
  refine ⟨.inl rfl, .inr (.inl rfl), .inr (.inr (.inl rfl)), n0, fun _=>by show 3 ≤ 100; decide, fun t m hm=>?_, fun t H H' h k kt=>StandOn.fr h n1 n2 k kt⟩
  show List.lookup m [(("places":Str), V.int t.places), ("standing", V.ref ds), ("gone", V.ref gl)] = none
  have h1:(m == ("places":Str)) = false:=beq_eq_false_iff_ne.mpr fun z=>hm (by rw [z]; simp [exNames])
  have h2:(m == ("standing":Str)) = false:=beq_eq_false_iff_ne.mpr fun z=>hm (by rw [z]; simp [exNames])
  have h3:(m == ("gone":Str)) = false:=beq_eq_false_iff_ne.mpr fun z=>hm (by rw [z]; simp [exNames])
  rw [List.lookup_cons, h1, List.lookup_cons, h2, List.lookup_cons, h3, List.lookup_nil]
 cls:=by
  rintro κ ⟨p, dc, dl, ds, gl, rfl, _⟩
  rfl
structure STxt (K:PySem.W.Frag) (C:Addr):Prop extends BTxt K C where
 s1:NoAttr K C "places"
 s2:NoAttr K C "standing"
 s3:NoAttr K C "gone"
section
variable {S:BS} {dc dl ds gl:Addr} {x y z:V}
theorem f_places:(fldsB S dc dl [("places", x), ("standing", y), ("gone", z)]).lookup ("places":Str) = some x:=rfl
theorem f_standing:(fldsB S dc dl [("places", x), ("standing", y), ("gone", z)]).lookup ("standing":Str) = some y:=rfl
theorem f_gone:(fldsB S dc dl [("places", x), ("standing", y), ("gone", z)]).lookup ("gone":Str) = some z:=rfl
end
theorem valV_tabS {n:Str}:∀ {st:List Str}, valV (tabS st) (Sum.inr n:Key) = if n ∈ st then some (.bl true) else none
 | []=>rfl
 | m :: r=>by
   by_cases h:m = n
   ·rw [if_pos (by rw [h]; exact List.mem_cons_self)]
    exact valV_pos (p:=((Sum.inr m, .bl true):Key × V)) (congrArg Sum.inr h)
   ·have e:valV (tabS (m :: r)) (Sum.inr n:Key) = valV (tabS r) (Sum.inr n:Key):=valV_neg (p:=((Sum.inr m, .bl true):Key × V)) (fun z=>h (Sum.inr.inj z))
    rw [e, valV_tabS]
    by_cases h2:n ∈ r
    ·rw [if_pos h2, if_pos (List.mem_cons_of_mem _ h2)]
    ·rw [if_neg h2, if_neg (fun z=>by rcases List.mem_cons.mp z with z | z; exact h z.symm; exact h2 z)]
theorem dropK_tabS {n:Str} {st:List Str}:dropK (tabS st) (Sum.inr n:Key) = tabS (st.filter fun m=>decide (m ≠ n)):=by
 unfold dropK tabS
 rw [List.filter_map]
 refine congrArg (List.map _) (List.filter_congr fun m _=>?_)
 rw [Bool.eq_iff_iff]
 simp
theorem putK_tabS {n:Str} {st:List Str} (h:n ∉ st):putK (tabS st) (Sum.inr n:Key) (.bl true) = tabS (st ++ [n]):=by
 have:valV (tabS st) (Sum.inr n:Key) = none:=by rw [valV_tabS, if_neg h]
 rw [putK_new _ this]
 unfold tabS
 rw [List.map_append]
 rfl
theorem filter_len {n:Str}:∀ {st:List Str}, st.Nodup -> n ∈ st -> (st.filter fun m=>decide (m ≠ n)).length + 1 = st.length
 | [], _, h=>by simp at h
 | m :: r, nd, h=>by
   obtain ⟨h1, h2⟩:=List.nodup_cons.mp nd
   by_cases e:m = n
   ·subst e
    have:(r.filter fun k=>decide (k ≠ m)) = r:=List.filter_eq_self.mpr fun a ha=>decide_eq_true fun z=>h1 (by rw [← z]; exact ha)
    rw [List.filter_cons, if_neg (by simp), this]
    rfl
   ·have hr:n ∈ r:=by
     rcases List.mem_cons.mp h with z | z
     ·exact absurd z.symm e
     ·exact z
    rw [List.filter_cons, if_pos (decide_eq_true e), List.length_cons, List.length_cons, filter_len h2 hr]
end Lk

namespace Lk
open PySem L2
section
variable {P:Program} {w:World} {K:PySem.W.Frag} {mg:Str -> Option Value} {base:Heap} {C:Addr}
theorem BookAt.setStand {κ:Kd ShS} {S:BS} {t t':ShS} {H:Hp} {p dc dl ds gl:Addr} (B:BookAt κ S t H) (h:ShIs C κ p dc dl ds gl) (e:t'.places = t.places) (eg:t'.gone = t.gone) (nd:t'.stand.Nodup) (few:t'.gone.length + t'.stand.length ≤ 1000):BookAt κ S t' (upd H ds (.dK (tabS t'.stand))):=by
 obtain ⟨rfl, n0, n1, n2, n3⟩:=h
 obtain ⟨⟨dx, h1⟩, h2, h3, h4, h5⟩:=B
 obtain ⟨g1, ⟨ts, g2, g3, g4⟩, g5, g6⟩:=h4
 refine ⟨⟨dx, ?_⟩, ?_, ?_, ⟨upd_same, ⟨ts, ?_, by rw [eg]; exact g3, fun j a g e1 e2=>?_⟩, nd, few⟩, al_upd h5 (by intro xs z; cases z)⟩
 ·show upd H ds _ p = some (.ins C dx (fldsB S dc dl [("places", .int t'.places), ("standing", .ref ds), ("gone", .ref gl)]))
  rw [upd_ne (Ne.symm n1.1), e]; exact h1
 ·show upd H ds _ dc = _; rw [upd_ne (Ne.symm n1.2.1)]; exact h2
 ·show upd H ds _ dl = _; rw [upd_ne (Ne.symm n1.2.2)]; exact h3
 ·rw [upd_ne (Ne.symm n3)]; exact g2
 ·rw [eg] at e2
  have:=g4 j a g e1 e2
  rw [upd_ne (ne_of this g1 (by intro z; cases z))]; exact this
theorem BookAt.addGone {κ:Kd ShS} {S:BS} {t:ShS} {H:Hp} {p dc dl ds gl a:Addr} {g:Going} {xs:List V} (B:BookAt κ S t H) (h:ShIs C κ p dc dl ds gl) (hg:H gl = some (.lst xs)) (ha:H a = some (.tup g.v)) (few:t.gone.length + 1 + t.stand.length ≤ 1000) :
  BookAt κ S { t with gone:=t.gone ++ [g] } (upd H gl (.lst (xs ++ [.ref a]))):=by
 obtain ⟨rfl, n0, n1, n2, n3⟩:=h
 obtain ⟨⟨dx, h1⟩, h2, h3, h4, h5⟩:=B
 obtain ⟨g1, ⟨ts, g2, g3, g4⟩, g5, g6⟩:=h4
 have:xs = ts.map V.ref:=by rw [g2] at hg; cases hg; rfl
 subst this
 have keep:∀ {b:Addr} {zs:List V}, H b = some (.tup zs) -> (upd H gl (.lst (ts.map V.ref ++ [.ref a]))) b = some (.tup zs):=fun {b zs} e=>by rw [upd_ne (ne_of e g2 (by intro z; cases z))]; exact e
 refine ⟨⟨dx, ?_⟩, ?_, ?_, ⟨?_, ⟨ts ++ [a], by rw [upd_same, List.map_append]; rfl, by rw [List.length_append, List.length_append, g3]; rfl, fun j b u e1 e2=>?_⟩, g5, by show (t.gone ++ [g]).length + _ ≤ _; rw [List.length_append]; exact few⟩, al_upd h5 (by intro xs z; cases z)⟩
 ·show upd H gl _ p = _; rw [upd_ne (Ne.symm n2.1)]; exact h1
 ·show upd H gl _ dc = _; rw [upd_ne (Ne.symm n2.2.1)]; exact h2
 ·show upd H gl _ dl = _; rw [upd_ne (Ne.symm n2.2.2)]; exact h3
 ·show upd H gl _ ds = _; rw [upd_ne n3]; exact g1
 ·have e2:(t.gone ++ [g])[j]? = some u:=e2
  by_cases hj:j < ts.length
  ·rw [List.getElem?_append_left hj] at e1
   rw [List.getElem?_append_left (by omega)] at e2
   exact keep (g4 j b u e1 e2)
  ·have hl:j < (ts ++ [a]).length:=(List.getElem?_eq_some_iff.mp e1).1
   rw [List.length_append] at hl
   have hl:j < ts.length + 1:=hl
   have ej:j = ts.length:=by omega
   subst ej
   rw [List.getElem?_append_right (Nat.le_refl _), Nat.sub_self] at e1
   rw [g3, List.getElem?_append_right (Nat.le_refl _), Nat.sub_self] at e2
   cases e1
   cases e2
   exact keep ha
def spTakeOff:Sp:=fun vs H Q _=>∃ (κ:Kd ShS) (S:BS) (t:ShS) (n r:Str) (c l:Int), (shelves C).is κ ∧ vs = [.ref κ.p, .str n, .str r, .int c, .int l] ∧ BookAt κ S t H ∧ n ∈ t.stand ∧ ∀ H', BookAt κ S (offS t S.deeds n r c l) H' -> Fr κ H H' -> Q .non H'
theorem scTakeOff:FnScope ["self", "name", "reason", "count", "last"] ["self", "name", "reason", "count", "last"] (defScope sTakeOff):=⟨rfl, rfl, rfl, by decide +kernel, rfl, by decide +kernel, by decide +kernel⟩
theorem ok_takeOff {f:Addr} (F:FunB K "take_off" "Shelf.take_off" sTakeOff f ["self", "name", "reason", "count", "last"]) (T:STxt K C):FnP P w K mg base 1 f ["self", "name", "reason", "count", "last"] (spTakeOff (C:=C)):=by
 refine F.ok scTakeOff (fun vs H Q E h=>?_) (fun cdv A outer s H vs Q E hr h=>?_)
 ·obtain ⟨κ, S, t, n, r, c, l, _, rfl, _⟩:=h
  rfl
 ·obtain ⟨κ, S, t, n, r, c, l, ⟨p, dc, dl, ds, gl, hi⟩, rfl, B, hn, k⟩:=h
  have O:=(shelves C).ok κ ⟨p, dc, dl, ds, gl, hi⟩
  obtain ⟨rfl, n0, n1, n2, n3⟩:=id hi
  obtain ⟨dx, h1⟩:=id B.ob
  obtain ⟨g1, ⟨ts, g2, g3, g4⟩, g5, g6⟩:=id B.ex
  have hu:=hu_of hr
  refine ⟨_, pss_cons (ps_expr (pe_dpop1 (pe_fld (pv 0) rfl) (pv 1) ⟨rfl, rfl, rfl, rfl⟩))
   (pss_one (ps_expr (pe_bm PySem.F.plainAttrs_list PySem.F.slot_list_append PySem.F.type_list_append mt_append (pe_fld (pv 0) rfl) (pa_cons (pe_tup (pa_cons (pe_fld (pv 0) rfl) (pa_cons (pv 1) (pa_cons (pv 2) (pa_cons (pv 3) (pa_cons (pv 4) pa_nil)))))) pa_nil)))), ?_⟩
  have vn:valV (tabS t.stand) (Sum.inr n:Key) = some (.bl true):=by rw [valV_tabS, if_pos hn]
  refine ⟨_, rfl, p, C, dx, _, _, rfl, h1, T.cl, T.s2, f_standing, ds, rfl, .inl ⟨_, .inl g1⟩, _, rfl, _, Sum.inr n, _, g1, rfl, vn, ?_⟩
  have hl:=filter_len g5 hn
  let t1:ShS:={ t with stand:=t.stand.filter fun m=>decide (m ≠ n) }
  have B1:BookAt (shelfK C p dc dl ds gl) S t1 (upd H ds (.dK (dropK (tabS t.stand) (Sum.inr n:Key)))):=by
   rw [dropK_tabS]
   exact B.setStand (t':=t1) hi rfl rfl (List.filter_sublist.nodup g5) (by show t.gone.length + (t.stand.filter fun m=>decide (m ≠ n)).length ≤ 1000; omega)
  have F1:Fr (shelfK C p dc dl ds gl) H (upd H ds (.dK (dropK (tabS t.stand) (Sum.inr n:Key)))):=Fr.upd O (.inr (.inr (.inr (.inl rfl))))
  generalize upd H ds (.dK (dropK (tabS t.stand) (Sum.inr n:Key))) = H1 at B1 F1 ⊢
  obtain ⟨dx1, k1⟩:=id B1.ob
  obtain ⟨_, ⟨ts1, k2, k3, k4⟩, _, k6⟩:=id B1.ex
  refine ⟨_, rfl, p, C, dx1, _, _, rfl, k1, T.cl, T.s3, f_gone, .inl ⟨rfl, _, SqL.of k2⟩, _, rfl, p, C, dx1, _, _, rfl, k1, T.cl, T.n4, f_deeds, _, rfl, _, rfl, _, rfl, _, rfl, (by show 5 ≤ sizeLine; decide), fun a ha=>?_⟩
  have Sa:Same H1 (upd H1 a (.tup (Going.v ⟨S.deeds, n, r, c, l⟩))):=Same.upd ha
  have B2:=B1.same O Sa
  have k2':=Sa _ _ k2
  refine ⟨gl, _, _, rfl, rfl, k2', ?_, ?_⟩
  ·rw [List.length_map, k3]
   refine Nat.lt_of_le_of_lt (show t.gone.length ≤ 1000 by omega) (by decide)
  ·refine k _ (B2.addGone hi k2' upd_same ?_) ((F1.trans (Fr.of_same Sa)).trans (Fr.upd O (.inr (.inr (.inr (.inr rfl))))))
   show t.gone.length + 1 + (t.stand.filter fun m=>decide (m ≠ n)).length ≤ 1000
   omega
theorem scSFade:FnScope ["self", "name", "last"] ["self", "name", "last"] (defScope sSFade):=⟨rfl, rfl, rfl, by decide +kernel, rfl, by decide +kernel, by decide +kernel⟩
theorem ok_sFade {f g:Addr} (F:FunB K "fade" "Shelf.fade" sSFade f ["self", "name", "last"]) (T:STxt K C) (G:FnP P w K mg base 1 g ["self", "name", "reason", "count", "last"] (spTakeOff (C:=C))) (M:Meth K C "take_off" g):FnP P w K mg base 8 f ["self", "name", "last"] (spFade (shelves C) fadeS):=by
 refine F.ok scSFade (fun vs H Q E h=>?_) (fun cdv A outer s H vs Q E hr h=>?_)
 ·obtain ⟨κ, S, t, n, l, _, rfl, _⟩:=h
  rfl
 ·obtain ⟨κ, S, t, n, l, hκ, rfl, B, k⟩:=h
  have O:=(shelves C).ok κ hκ
  obtain ⟨p, dc, dl, ds, gl, hi⟩:=id hκ
  obtain ⟨rfl, n0, n1, n2, n3⟩:=id hi
  obtain ⟨dx, h1⟩:=id B.ob
  obtain ⟨g1, _, g5, g6⟩:=id B.ex
  have hu:=hu_of hr
  refine ⟨_, pss_one (ps_if (pt_cmp (pc_din hu (pv 1) (pe_fld (pv 0) rfl))) (pss_one (ps_expr (pe_methP (pv 0) T.cl M G (hr.mono (by decide)) (pa_cons (pv 1) (pa_cons pe_str (pa_cons pe_int (pa_cons (pv 2) pa_nil))))))) pss_nil), ?_⟩
  refine ⟨_, rfl, _, rfl, p, C, dx, _, _, rfl, h1, T.cl, T.s2, f_standing, ds, _, rfl, DGet.k (k:=Sum.inr n) g1, _, rfl, ?_⟩
  rw [valV_tabS]
  by_cases hn:n ∈ t.stand
  ·rw [if_pos hn]
   refine iteT ?_
   refine ⟨_, rfl, p, dx, _, rfl, h1, B.fno O (by decide +kernel) (by decide +kernel), _, rfl, _, rfl, ?_⟩
   refine ⟨_, S, t, n, "faded", 0, l, hκ, rfl, B, hn, fun H' B' F'=>k H' ?_ F'⟩
   unfold fadeS
   rw [if_pos hn]
   exact B'
  ·rw [if_neg hn]
   refine iteF ?_
   refine k H ?_ Fr.refl
   unfold fadeS
   rw [if_neg hn]
   exact B
def lastE (S:BS) (n:Str):Int:=(lstE S n).getD 0
def TakeIn (S:BS) (t:ShS) (n:Str) (t':ShS):Prop:=
 if (t.stand.length:Int) = t.places then ∃ m ∈ t.stand, (∀ y ∈ t.stand, HT.lexLt (keyOf S y) (keyOf S m) = false) ∧ t' = inS (offS t S.deeds m "crowded" (cntE S m) (lastE S m)) n else t' = inS t n
def StandIn (S:BS) (t:ShS):Prop:=∀ n ∈ t.stand, ∃ e, findE S.ents n = some e
def spTakeIn:Sp:=fun vs H Q _=>∃ (κ:Kd ShS) (S:BS) (t:ShS) (n:Str), (shelves C).is κ ∧ vs = [.ref κ.p, .str n] ∧ BookAt κ S t H ∧ StandIn S t ∧ n ∉ t.stand ∧ 1 ≤ t.places ∧ t.gone.length + t.stand.length < 1000 ∧ ∀ t' H', TakeIn S t n t' -> BookAt κ S t' H' -> Fr κ H H' -> Q .non H'
theorem scTakeIn:FnScope ["self", "name", "weakest"] ["self", "name"] (defScope sTakeIn):=⟨rfl, rfl, rfl, by decide +kernel, rfl, by decide +kernel, by decide +kernel⟩
theorem ok_takeIn {f g gs:Addr} (F:FunB K "take_in" "Shelf.take_in" sTakeIn f ["self", "name"]) (T:STxt K C) (B:Blt mg) (G:FnP P w K mg base 1 g ["self", "name", "reason", "count", "last"] (spTakeOff (C:=C))) (M:Meth K C "take_off" g)
  (Gs:FnP P w K mg base 1 gs ["self", "name"] (spStrength (shelves C))) (Ms:MethV K C "strength" gs):FnP P w K mg base 6 f ["self", "name"] (spTakeIn (C:=C)):=by
 obtain ⟨fds, Gs, bs, _⟩:=Gs
 refine F.ok scTakeIn (fun vs H Q E h=>?_) (fun cdv A outer s H vs Q E hr h=>?_)
 ·obtain ⟨κ, S, t, n, _, rfl, _⟩:=h
  rfl
 ·obtain ⟨κ, S, t, n, hκ, rfl, B0, sin, hn, pl1, few, k⟩:=h
  have O:=(shelves C).ok κ hκ
  obtain ⟨p, dc, dl, ds, gl, hi⟩:=id hκ
  obtain ⟨rfl, n0, n1, n2, n3⟩:=id hi
  obtain ⟨dx, h1⟩:=id B0.ob
  obtain ⟨g1, _, g5, g6⟩:=id B0.ex
  have hu:=hu_of hr
  refine ⟨_, pss_cons (ps_if (pt_cmpR op_eq (pe_callB call_lenD rfl B.len PySem.boot_len (pa_cons (pe_fld (pv 0) rfl) pa_nil)) (pe_fld (pv 0) rfl) (nomark _))
    (pss_cons (ps_set (i:=2) scTakeIn.nd rfl (Or.inl rfl) (pe_minK rfl Gs (hr.mono (by decide)) bs rfl B.min_ (pe_fld (pv 0) rfl) (pe_bound (pv 0) T.cl Ms rfl)))
    (pss_one (ps_expr (pe_methP (pv 0) T.cl M G (hr.mono (by decide)) (pa_cons (pv 2) (pa_cons pe_str (pa_cons (pe_dget hu (pe_fld (pv 0) rfl) (pv 2) (fun _ _=>rfl)) (pa_cons (pe_dget hu (pe_fld (pv 0) rfl) (pv 2) (fun _ _=>rfl)) pa_nil)))))))) pss_nil)
   (pss_one (ps_dput hu (pe_fld (pv 0) rfl) (pv 1) pe_bl rfl)), ?_⟩
  refine ⟨_, rfl, p, C, dx, _, _, rfl, h1, T.cl, T.s2, f_standing, ds, _, rfl, g1, _, rfl, p, C, dx, _, _, rfl, h1, T.cl, T.s1, f_places, rfl, _, rfl, ?_⟩
  have elen:((tabS t.stand).length:Int) = (t.stand.length:Int):=by unfold tabS; rw [List.length_map]
  refine ite2 (fun hfull=>?_) (fun hfree=>?_)
  ·have hfull:(t.stand.length:Int) = t.places:=by rw [← elen]; exact V.int.inj (of_decide_eq_true hfull)
   refine ⟨_, rfl, p, C, dx, _, _, rfl, h1, T.cl, T.s2, f_standing, _, rfl, p, dx, _, rfl, h1, B0.fno O (by decide +kernel) (by decide +kernel), fun q hq=>?_⟩
   have Sq:Same H (upd H q (.met gs p)):=Same.upd hq
   have hqq:(upd H q (.met gs p)) q = some (.met gs p):=upd_same
   have B1:=B0.same O Sq
   generalize upd H q (.met gs p) = H1 at Sq hqq B1 ⊢
   obtain ⟨k1, _, _, _⟩:=id B1.ex
   have hne:t.stand ≠ []:=fun z=>by rw [z] at hfull; have:(0:Int) = t.places:=hfull; omega
   refine ⟨q, p, ds, tabS t.stand, t.stand.map fun m=>(V.str m, keyOf S m), rfl, rfl, hqq, k1, ?_, ?_, ?_, ?_⟩
   ·unfold tabS; rw [List.map_map, List.map_map]; rfl
   ·intro z; exact hne (List.map_eq_nil_iff.mp z)
   ·intro o z hz H' Q' SS hq'
    obtain ⟨m, hm, rfl⟩:=List.mem_map.mp hz
    obtain ⟨e, he⟩:=sin m hm
    have en:e.1 = m:=(findE_some he).1
    subst en
    have BR:BookR (shelfK C p dc dl ds gl) S t (upd H1 ds (.frz o (.dK (tabS t.stand)))):=by
     obtain ⟨⟨dx', a1⟩, a2, a3⟩:=B1.r
     refine ⟨⟨dx', ?_⟩, ?_, ?_⟩
     ·show upd H1 ds _ p = _; rw [upd_ne (Ne.symm n1.1)]; exact a1
     ·show upd H1 ds _ dc = _; rw [upd_ne (Ne.symm n1.2.1)]; exact a2
     ·show upd H1 ds _ dl = _; rw [upd_ne (Ne.symm n1.2.2)]; exact a3
    refine ⟨_, S, t, e, hκ, rfl, BR.same SS, he, fun q2 hq2=>?_⟩
    have ek:keyOf S e.1 = [e.2.1, e.2.2]:=by unfold keyOf; rw [he]
    have:=hq' q2 hq2
    rw [show ((V.str e.1, keyOf S e.1):V × List Int).2 = [e.2.1, e.2.2] from ek] at this
    exact this
   ·intro z hz hleast H2 S2
    obtain ⟨m, hm, rfl⟩:=List.mem_map.mp hz
    have hleast:∀ y ∈ t.stand, HT.lexLt (keyOf S y) (keyOf S m) = false:=fun y hy=>hleast (V.str y, keyOf S y) (List.mem_map.mpr ⟨y, hy, rfl⟩)
    obtain ⟨e, he⟩:=sin m hm
    have en:e.1 = m:=(findE_some he).1
    have S12:=Sq.trans S2
    have B2:=B0.same O S12
    obtain ⟨dx2, b1⟩:=id B2.ob
    have gc:DGet H2 dc (.str m) (some (.int e.2.1)):=by
     have:=DGet.k (k:=Sum.inr m) B2.cn
     rw [valV_tab, he] at this
     exact this
    have gl':DGet H2 dl (.str m) (some (.int e.2.2)):=by
     have:=DGet.k (k:=Sum.inr m) B2.ls
     rw [valV_tab, he] at this
     exact this
    have ec:cntE S m = e.2.1:=by unfold cntE; rw [he]; rfl
    have el:lastE S m = e.2.2:=by unfold lastE lstE; rw [he]; rfl
    refine ⟨_, rfl, p, dx2, _, rfl, b1, B2.fno O (by decide +kernel) (by decide +kernel), _, rfl, _, rfl, p, C, dx2, _, _, rfl, b1, T.cl, T.n5, f_counts, _, rfl, dc, _, rfl, gc, _, rfl, p, C, dx2, _, _, rfl, b1, T.cl, T.n6, f_lasts, _, rfl, dl, _, rfl, gl', ?_⟩
    refine ⟨_, S, t, m, "crowded", e.2.1, e.2.2, hκ, rfl, B2, hm, fun H3 B3 F3=>?_⟩
    obtain ⟨dx3, c1⟩:=id B3.ob
    obtain ⟨c2, _, c5, c6⟩:=id B3.ex
    have hnot:n ∉ (offS t S.deeds m "crowded" e.2.1 e.2.2).stand:=fun z=>hn (List.mem_filter.mp z).1
    have hfl:=filter_len g5 hm
    refine ⟨_, rfl, p, C, dx3, _, _, rfl, c1, T.cl, T.s2, f_standing, _, rfl, ds, _, rfl, DPut.k (k:=Sum.inr n) c2 ?_, ?_⟩
    ·unfold tabS
     rw [List.length_map]
     refine Nat.lt_of_le_of_lt (show (t.stand.filter fun y=>decide (y ≠ m)).length ≤ 1000 by omega) (by decide)
    ·rw [putK_tabS hnot]
     refine k (inS (offS t S.deeds m "crowded" e.2.1 e.2.2) n) _ ?_ (B3.setStand (t':=inS (offS t S.deeds m "crowded" e.2.1 e.2.2) n) hi rfl rfl ?_ ?_) (((Fr.of_same S12).trans F3).trans (Fr.upd O (.inr (.inr (.inr (.inl rfl))))))
     ·unfold TakeIn
      rw [if_pos hfull]
      exact ⟨m, hm, hleast, by rw [ec, el]⟩
     ·show ((t.stand.filter fun y=>decide (y ≠ m)) ++ [n]).Nodup
      rw [List.nodup_append]
      exact ⟨List.filter_sublist.nodup g5, by simp, fun a ha b hb z=>hnot (by rw [List.mem_singleton.mp hb] at z; rw [← z]; exact ha)⟩
     ·show (t.gone ++ [_]).length + ((t.stand.filter fun y=>decide (y ≠ m)) ++ [n]).length ≤ 1000
      rw [List.length_append, List.length_append]
      show t.gone.length + 1 + (_ + 1) ≤ 1000
      omega
  ·have hfree:¬ (t.stand.length:Int) = t.places:=fun z=>hfree (decide_eq_true (by rw [elen, z]))
   refine ⟨_, rfl, p, C, dx, _, _, rfl, h1, T.cl, T.s2, f_standing, _, rfl, ds, _, rfl, DPut.k (k:=Sum.inr n) g1 ?_, ?_⟩
   ·unfold tabS
    rw [List.length_map]
    refine Nat.lt_of_le_of_lt (show t.stand.length ≤ 1000 by omega) (by decide)
   ·rw [putK_tabS hn]
    refine k (inS t n) _ ?_ (B0.setStand (t':=inS t n) hi rfl rfl ?_ ?_) (Fr.upd O (.inr (.inr (.inr (.inl rfl)))))
    ·unfold TakeIn
     rw [if_neg hfree]
    ·show (t.stand ++ [n]).Nodup
     rw [List.nodup_append]
     exact ⟨g5, by simp, fun a ha b hb z=>hn (by rw [List.mem_singleton.mp hb] at z; rw [← z]; exact ha)⟩
    ·show t.gone.length + (t.stand ++ [n]).length ≤ 1000
     rw [List.length_append]
     show t.gone.length + (t.stand.length + 1) ≤ 1000
     omega
end
end Lk

namespace Lk
open PySem L2
theorem filter_ne_none {n:Str} {st:List Str} (h:n ∉ st):(st.filter fun m=>decide (m ≠ n)) = st:=List.filter_eq_self.mpr fun a ha=>decide_eq_true fun z=>h (by rw [← z]; exact ha)
theorem fadeS_stand (d:Int) (n:Str) (l:Int) (t:ShS):(fadeS d n l t).stand = t.stand.filter fun m=>decide (m ≠ n):=by
 unfold fadeS
 by_cases h:n ∈ t.stand
 ·rw [if_pos h]; rfl
 ·rw [if_neg h, filter_ne_none h]
theorem fadeS_places (d:Int) (n:Str) (l:Int) (t:ShS):(fadeS d n l t).places = t.places:=by
 unfold fadeS
 by_cases h:n ∈ t.stand
 ·rw [if_pos h]; rfl
 ·rw [if_neg h]
def ShS.many (t:ShS):Nat:=t.gone.length + t.stand.length
theorem offS_many {t:ShS} {d:Int} {n r:Str} {c l:Int} (nd:t.stand.Nodup) (h:n ∈ t.stand):(offS t d n r c l).many = t.many:=by
 have:=filter_len nd h
 unfold ShS.many offS
 dsimp only
 rw [List.length_append]
 show _ + 1 + _ = _
 omega
theorem fadeS_many {d:Int} {n:Str} {l:Int} {t:ShS} (nd:t.stand.Nodup):(fadeS d n l t).many = t.many:=by
 unfold fadeS
 by_cases h:n ∈ t.stand
 ·rw [if_pos h, offS_many nd h]
 ·rw [if_neg h]
theorem foldF_stand (d:Int):∀ (qs:List (Int × Str)) (t:ShS), (foldF fadeS d qs t).stand = t.stand.filter (fun m=>decide (m ∉ qs.map (·.2))) ∧ (foldF fadeS d qs t).places = t.places ∧ (t.stand.Nodup -> (foldF fadeS d qs t).many = t.many)
 | [], t=>⟨by show t.stand = _; rw [List.filter_eq_self.mpr]; intro a _; exact decide_eq_true (by simp), rfl, fun _=>rfl⟩
 | q :: r, t=>by
   obtain ⟨h1, h2, h3⟩:=foldF_stand d r (fadeS d q.2 q.1 t)
   refine ⟨?_, ?_, fun nd=>?_⟩
   ·show (foldF fadeS d r (fadeS d q.2 q.1 t)).stand = _
    rw [h1, fadeS_stand, List.filter_filter]
    refine List.filter_congr fun m _=>?_
    rw [List.map_cons, Bool.eq_iff_iff, Bool.and_eq_true, decide_eq_true_eq, decide_eq_true_eq, decide_eq_true_eq, List.mem_cons]
    exact ⟨fun z y=>y.elim (fun e=>z.2 e) z.1, fun z=>⟨fun y=>z (.inr y), fun y=>z (.inl y)⟩⟩
   ·show (foldF fadeS d r (fadeS d q.2 q.1 t)).places = _
    rw [h2, fadeS_places]
   ·show (foldF fadeS d r (fadeS d q.2 q.1 t)).many = _
    rw [h3 (by rw [fadeS_stand]; exact List.filter_sublist.nodup nd), fadeS_many nd]
def staysB (S:BS) (steps:Int) (m:Str):Bool:=if 0 < timesOf S steps then decide (m ∉ (goneE S.ents S.part (timesOf S steps)).map (·.1)) else true
structure Passed (S:BS) (steps:Int) (t t':ShS):Prop where
 st:t'.stand = t.stand.filter (staysB S steps)
 pl:t'.places = t.places
 mn:t.stand.Nodup -> t'.many = t.many
theorem passed_of {S:BS} {steps:Int} {t t':ShS} (h:PassT fadeS S steps t t'):Passed S steps t t':=by
 unfold PassT at h
 by_cases hp:0 < timesOf S steps
 ·rw [if_pos hp] at h
  obtain ⟨qs, ⟨pm, _⟩, rfl⟩:=h
  obtain ⟨h1, h2, h3⟩:=foldF_stand S.deeds qs t
  refine ⟨?_, h2, h3⟩
  rw [h1]
  refine List.filter_congr fun m _=>?_
  unfold staysB
  rw [if_pos hp]
  have hm:(m ∈ qs.map (·.2)) ↔ m ∈ (goneE S.ents S.part (timesOf S steps)).map (·.1):=by
   rw [(pm.map (·.2)).mem_iff, List.map_map]
   exact Iff.rfl
  rw [Bool.eq_iff_iff, decide_eq_true_eq, decide_eq_true_eq, hm]
 ·rw [if_neg hp] at h
  subst h
  refine ⟨?_, rfl, fun _=>rfl⟩
  rw [List.filter_eq_self.mpr]
  intro a _
  unfold staysB
  rw [if_neg hp]
theorem findE_pass {S:BS} {steps:Int} {m:Str} {e:Str × Int × Int} (nd:(namesOf S.ents).Nodup) (h:findE S.ents m = some e) (hs:staysB S steps m = true):∃ e', findE (passS S steps).ents m = some e':=by
 unfold staysB at hs
 unfold passS
 dsimp only
 by_cases hp:0 < timesOf S steps
 ·rw [if_pos hp] at hs ⊢
  have hn:=of_decide_eq_true hs
  have he:stayE S.part (timesOf S steps) e = true:=by
   cases q:stayE S.part (timesOf S steps) e with
   | true=>rfl
   | false=>exact absurd (List.mem_map.mpr ⟨e, List.mem_filter.mpr ⟨findE_mem h, by rw [q]; rfl⟩, (findE_some h).1⟩) hn
  rw [findE_age nd, h]
  exact ⟨_, if_pos (of_decide_eq_true he)⟩
 ·rw [if_neg hp]
  exact ⟨e, h⟩
theorem StandIn.passed {S:BS} {steps:Int} {t t':ShS} (h:StandIn S t) (nd:(namesOf S.ents).Nodup) (p:Passed S steps t t'):StandIn (passS S steps) t':=by
 intro m hm
 rw [p.st] at hm
 obtain ⟨h1, h2⟩:=List.mem_filter.mp hm
 obtain ⟨e, he⟩:=h m h1
 exact findE_pass nd he h2
section
variable {P:Program} {w:World} {K:PySem.W.Frag} {mg:Str -> Option Value} {base:Heap} {C:Addr}
theorem nd_of {κ:Kd ShS} {S:BS} {t:ShS} {H:Hp} (hκ:(shelves C).is κ) (B:BookAt κ S t H):t.stand.Nodup:=by
 obtain ⟨p, dc, dl, ds, gl, rfl, _⟩:=hκ
 exact B.ex.nd
def AskT (S:BS) (n:Str) (t1 t':ShS):Prop:=if n ∈ t1.stand then t' = t1 else TakeIn S t1 n t'
def spSAsk (C:Addr):Sp:=fun vs H Q _=>∃ (κ:Kd ShS) (S:BS) (t:ShS) (n:Str) (w:Int), (shelves C).is κ ∧ vs = [.ref κ.p, .str n, .int w] ∧ BookAt κ S t H ∧ Fit S ∧ Fit (passS (deedS S) 1) ∧ GoodName n ∧ 1 ≤ w ∧ w ≤ 10 ^ 30 ∧ StandIn S t ∧ 1 ≤ t.places ∧ t.many < 1000 ∧
 ∀ t1 t' H', Passed (deedS S) 1 t t1 -> AskT (passS (deedS S) 1) n t1 t' -> BookAt κ (askS S n w) t' H' -> Fr κ H H' -> Q (.bl (decide (n ∈ t1.stand))) H'
theorem scSAsk:FnScope ["self", "name", "weight", "met"] ["self", "name", "weight"] (defScope sSAsk):=⟨rfl, rfl, rfl, by decide +kernel, rfl, by decide +kernel, by decide +kernel⟩
theorem ok_sAsk {f gb gg gt:Addr} {fd:FuncData} {ds:List Value} (F:FunD K "ask" "Shelf.ask" sSAsk f fd ds) (T:STxt K C) (Gb:FnP P w K mg base 16 gb ["self", "name", "weight"] (spBeginAsk (shelves C) fadeS)) (Mb:Meth K C "begin_ask" gb)
  (Gg:FnP P w K mg base 1 gg ["self", "name", "weight"] (spGrow (shelves C))) (Mg:Meth K C "grow" gg) (Gt:FnP P w K mg base 6 gt ["self", "name"] (spTakeIn (C:=C))) (Mt:Meth K C "take_in" gt):FnOk P w K mg base CX0 18 f fd ["self", "name", "weight"] (spSAsk C):=by
 refine F.ok scSAsk (fun vs H Q E h=>?_) (fun cdv A outer s H vs Q E hr h=>?_)
 ·obtain ⟨κ, S, t, n, w, _, rfl, _⟩:=h
  rfl
 ·obtain ⟨κ, S, t, n, w, hκ, rfl, B0, fit, fit1, gn1, w1, w2, sin, pl1, few, k⟩:=h
  have hC:=(shelves C).cls κ hκ
  have O:=(shelves C).ok κ hκ
  have hu:=hu_of hr
  obtain ⟨dx, h1⟩:=B0.ob
  rw [hC] at h1
  refine ⟨_, pss_cons (ps_expr (pe_methP (pv 0) T.cl Mb Gb (hr.mono (by decide)) (pa_cons (pv 1) (pa_cons (pv 2) pa_nil))))
   (pss_cons (ps_set (i:=3) scSAsk.nd rfl (Or.inl rfl) (pe_cmp (pc_din hu (pv 1) (pe_fld (pv 0) rfl))))
   (pss_cons (ps_if (pt_not (pt_val (pv 3))) (pss_one (ps_expr (pe_methP (pv 0) T.cl Mt Gt (hr.mono (by decide)) (pa_cons (pv 1) pa_nil)))) pss_nil)
   (pss_cons (ps_expr (pe_methP (pv 0) T.cl Mg Gg (hr.mono (by decide)) (pa_cons (pv 1) (pa_cons (pv 2) pa_nil))))
   (pss_one (ps_ret (pv 3)))))), ?_⟩
  refine ⟨_, rfl, κ.p, dx, _, rfl, h1, B0.fno O (by decide +kernel) (by decide +kernel), _, rfl, _, rfl, ?_⟩
  refine ⟨κ, S, t, n, w, hκ, rfl, B0, fit, gn1, w1, w2, fun t1 H1 pt b1 f1=>?_⟩
  have pd:=passed_of pt
  have sin1:StandIn (passS (deedS S) 1) t1:=StandIn.passed (S:=deedS S) sin fit.nd pd
  have few1:t1.many < 1000:=by rw [pd.mn (nd_of hκ B0)]; exact few
  obtain ⟨dx1, g1⟩:=b1.ob
  rw [hC] at g1
  have hd1:∃ (ds:Addr) (x y:V), κ.ex t1 = [(("places":Str), x), (("standing":Str), V.ref ds), (("gone":Str), y)] ∧ H1 ds = some (.dK (tabS t1.stand)):=by
   obtain ⟨p, dc, dl, ds, gl, rfl, _⟩:=id hκ
   exact ⟨ds, _, _, rfl, b1.ex.st⟩
  obtain ⟨ds, x, y, ex, hds⟩:=hd1
  rw [ex] at g1
  refine ⟨_, rfl, _, rfl, κ.p, C, dx1, _, _, rfl, g1, T.cl, T.s2, f_standing, ds, _, rfl, DGet.k (k:=Sum.inr n) hds, ?_⟩
  rw [valV_tabS]
  have grow:∀ t' H2, AskT (passS (deedS S) 1) n t1 t' -> BookAt κ (passS (deedS S) 1) t' H2 -> Fr κ H H2 -> ∀ H3, BookAt κ (askS S n w) t' H3 -> Fr κ H2 H3 -> Q (.bl (decide (n ∈ t1.stand))) H3:=fun t' H2 at_ b2 f2 H3 b3 f3=>k t1 t' H3 pd at_ b3 (f2.trans f3)
  by_cases hn:n ∈ t1.stand
  ·rw [if_pos hn]
   refine ⟨_, rfl, _, rfl, ?_⟩
   refine iteF ?_
   have g1':=b1.ob
   obtain ⟨dx2, g2⟩:=g1'
   rw [hC] at g2
   refine ⟨_, rfl, κ.p, dx2, _, rfl, g2, b1.fno O (by decide +kernel) (by decide +kernel), _, rfl, _, rfl, ?_⟩
   refine ⟨κ, passS (deedS S) 1, t1, n, w, hκ, rfl, b1, fit1.nd, fit1.few, fun H3 b3 f3=>⟨_, rfl, ?_⟩⟩
   have:=grow t1 H1 (by unfold AskT; rw [if_pos hn]) b1 f1 H3 b3 f3
   rw [decide_eq_true hn] at this
   exact this
  ·rw [if_neg hn]
   refine ⟨_, rfl, _, rfl, ?_⟩
   refine iteT ?_
   obtain ⟨dx2, g2⟩:=b1.ob
   rw [hC] at g2
   refine ⟨_, rfl, κ.p, dx2, _, rfl, g2, b1.fno O (by decide +kernel) (by decide +kernel), _, rfl, ?_⟩
   refine ⟨κ, passS (deedS S) 1, t1, n, hκ, rfl, b1, sin1, hn, by rw [pd.pl]; exact pl1, few1, fun t' H2 ti b2 f2=>?_⟩
   obtain ⟨dx3, g3⟩:=b2.ob
   rw [hC] at g3
   refine ⟨_, rfl, κ.p, dx3, _, rfl, g3, b2.fno O (by decide +kernel) (by decide +kernel), _, rfl, _, rfl, ?_⟩
   refine ⟨κ, passS (deedS S) 1, t', n, w, hκ, rfl, b2, fit1.nd, fit1.few, fun H3 b3 f3=>⟨_, rfl, ?_⟩⟩
   have:=grow t' H2 (by unfold AskT; rw [if_neg hn]; exact ti) b2 (f1.trans f2) H3 b3 f3
   rw [decide_eq_false hn] at this
   exact this
def DropT (S:BS) (n:Str) (t t':ShS):Prop:=t' = if n ∈ t.stand then offS t (S.deeds + 1) n "dropped" (cntE S n) (lastE S n) else t
def spSDrop (C:Addr):Sp:=fun vs H Q _=>∃ (κ:Kd ShS) (S:BS) (t:ShS) (n:Str), (shelves C).is κ ∧ vs = [.ref κ.p, .str n] ∧ BookAt κ S t H ∧ GoodName n ∧ StandIn S t ∧
 ∀ t' H', DropT S n t t' -> BookAt κ (deedS S) t' H' -> Fr κ H H' -> Q (.bl (decide (n ∈ t.stand))) H'
theorem scSDrop:FnScope ["self", "name", "stood"] ["self", "name"] (defScope sSDrop):=⟨rfl, rfl, rfl, by decide +kernel, rfl, by decide +kernel, by decide +kernel⟩
theorem ok_sDrop {f gb gt:Addr} (F:FunB K "drop" "Shelf.drop" sSDrop f ["self", "name"]) (T:STxt K C) (Gb:FnP P w K mg base 4 gb ["self", "name"] (spBeginDrop (shelves C))) (Mb:Meth K C "begin_drop" gb)
  (Gt:FnP P w K mg base 1 gt ["self", "name", "reason", "count", "last"] (spTakeOff (C:=C))) (Mt:Meth K C "take_off" gt):FnP P w K mg base 6 f ["self", "name"] (spSDrop C):=by
 refine F.ok scSDrop (fun vs H Q E h=>?_) (fun cdv A outer s H vs Q E hr h=>?_)
 ·obtain ⟨κ, S, t, n, _, rfl, _⟩:=h
  rfl
 ·obtain ⟨κ, S, t, n, hκ, rfl, B0, gn1, sin, k⟩:=h
  have hC:=(shelves C).cls κ hκ
  have O:=(shelves C).ok κ hκ
  have hu:=hu_of hr
  obtain ⟨dx, h1⟩:=B0.ob
  rw [hC] at h1
  refine ⟨_, pss_cons (ps_expr (pe_methP (pv 0) T.cl Mb Gb (hr.mono (by decide)) (pa_cons (pv 1) pa_nil)))
   (pss_cons (ps_set (i:=2) scSDrop.nd rfl (Or.inl rfl) (pe_cmp (pc_din hu (pv 1) (pe_fld (pv 0) rfl))))
   (pss_cons (ps_if (pt_val (pv 2)) (pss_one (ps_expr (pe_methP (pv 0) T.cl Mt Gt (hr.mono (by decide)) (pa_cons (pv 1) (pa_cons pe_str (pa_cons (pe_dget hu (pe_fld (pv 0) rfl) (pv 1) (fun _ _=>rfl)) (pa_cons (pe_dget hu (pe_fld (pv 0) rfl) (pv 1) (fun _ _=>rfl)) pa_nil))))))) pss_nil)
   (pss_one (ps_ret (pv 2))))), ?_⟩
  refine ⟨_, rfl, κ.p, dx, _, rfl, h1, B0.fno O (by decide +kernel) (by decide +kernel), _, rfl, ?_⟩
  refine ⟨κ, S, t, n, hκ, rfl, B0, gn1, fun H1 b1 f1=>?_⟩
  obtain ⟨dx1, g1⟩:=b1.ob
  rw [hC] at g1
  have g0:=g1
  have hd1:∃ (ds:Addr) (x y:V), κ.ex t = [(("places":Str), x), (("standing":Str), V.ref ds), (("gone":Str), y)] ∧ H1 ds = some (.dK (tabS t.stand)):=by
   obtain ⟨p, dc, dl, ds, gl, rfl, _⟩:=id hκ
   exact ⟨ds, _, _, rfl, b1.ex.st⟩
  obtain ⟨ds, x, y, ex, hds⟩:=hd1
  rw [ex] at g1
  refine ⟨_, rfl, _, rfl, κ.p, C, dx1, _, _, rfl, g1, T.cl, T.s2, f_standing, ds, _, rfl, DGet.k (k:=Sum.inr n) hds, ?_⟩
  rw [valV_tabS]
  by_cases hn:n ∈ t.stand
  ·rw [if_pos hn]
   refine ⟨_, rfl, _, rfl, ?_⟩
   refine iteT ?_
   obtain ⟨e, he⟩:=sin n hn
   have gc:DGet H1 κ.dc (.str n) (some (.int e.2.1)):=by
    have:=DGet.k (k:=Sum.inr n) b1.cn
    rw [valV_tab, show (deedS S).ents = S.ents from rfl, he] at this
    exact this
   have gl':DGet H1 κ.dl (.str n) (some (.int e.2.2)):=by
    have:=DGet.k (k:=Sum.inr n) b1.ls
    rw [valV_tab, show (deedS S).ents = S.ents from rfl, he] at this
    exact this
   have ec:cntE S n = e.2.1:=by unfold cntE; rw [he]; rfl
   have el:lastE S n = e.2.2:=by unfold lastE lstE; rw [he]; rfl
   refine ⟨_, rfl, κ.p, dx1, _, rfl, g0, b1.fno O (by decide +kernel) (by decide +kernel), _, rfl, _, rfl, κ.p, C, dx1, _, _, rfl, g0, T.cl, T.n5, f_counts, _, rfl, κ.dc, _, rfl, gc, _, rfl, κ.p, C, dx1, _, _, rfl, g0, T.cl, T.n6, f_lasts, _, rfl, κ.dl, _, rfl, gl', ?_⟩
   refine ⟨κ, deedS S, t, n, "dropped", e.2.1, e.2.2, hκ, rfl, b1, hn, fun H2 b2 f2=>⟨_, rfl, ?_⟩⟩
   have:=k _ H2 (by unfold DropT; rw [if_pos hn, ec, el]; rfl) b2 (f1.trans f2)
   rw [decide_eq_true hn] at this
   exact this
  ·rw [if_neg hn]
   refine ⟨_, rfl, _, rfl, ?_⟩
   refine iteF ?_
   refine ⟨_, rfl, ?_⟩
   have:=k t H1 (by unfold DropT; rw [if_neg hn]) b1 f1
   rw [decide_eq_false hn] at this
   exact this
def spSNames (C:Addr):Sp:=fun vs H Q _=>∃ (κ:Kd ShS) (S:BS) (t:ShS), (shelves C).is κ ∧ vs = [.ref κ.p] ∧ BookAt κ S t H ∧ Sortable S t.stand ∧ ∀ l H' ys, H l = none -> Same H H' -> H' l = some (.lst (ys.map V.str)) -> Weak S t.stand ys -> Q (.ref l) H'
theorem scSNames:FnScope ["self"] ["self"] (defScope sSNames):=⟨rfl, rfl, rfl, by decide +kernel, rfl, by decide +kernel, by decide +kernel⟩
theorem ok_sNames {f g:Addr} (F:FunB K "names" "Shelf.names" sSNames f ["self"]) (T:STxt K C) (G:FnP P w K mg base 6 g ["self", "names"] (spInOrder (shelves C) K)) (M:Meth K C "in_order" g):FnP P w K mg base 8 f ["self"] (spSNames C):=by
 refine F.ok scSNames (fun vs H Q E h=>?_) (fun cdv A outer s H vs Q E hr h=>?_)
 ·obtain ⟨κ, S, t, _, rfl, _⟩:=h
  rfl
 ·obtain ⟨κ, S, t, hκ, rfl, B1, hs, k⟩:=h
  have O:=(shelves C).ok κ hκ
  obtain ⟨p, dc, dl, ds, gl, hi⟩:=id hκ
  obtain ⟨rfl, n0, n1, n2, n3⟩:=id hi
  obtain ⟨dx, h1⟩:=id B1.ob
  refine ⟨_, pss_one (ps_ret (pe_methP (pv 0) T.cl M G (hr.mono (by decide)) (pa_cons (pe_fld (pv 0) rfl) pa_nil))), ?_⟩
  refine ⟨_, rfl, p, dx, _, rfl, h1, B1.fno O (by decide +kernel) (by decide +kernel), _, rfl, p, C, dx, _, _, rfl, h1, T.cl, T.s2, f_standing, ?_⟩
  refine ⟨_, S, t, _, t.stand, hκ, rfl, B1, ⟨ds, rfl, .inr ⟨_, .inl B1.ex.st, ?_⟩⟩, hs, k⟩
  unfold tabS
  rw [List.map_map]
  rfl
def spCkPlaces:Sp:=fun vs H Q _=>∃ x:Int, vs = [.int x] ∧ 1 ≤ x ∧ x ≤ 1000 ∧ Q .non H
theorem scCkPlaces:FnScope ["places"] ["places"] (defScope sCkPlaces):=⟨rfl, rfl, rfl, by decide +kernel, rfl, by decide +kernel, by decide +kernel⟩
theorem ok_ckPlaces {f g:Addr} (F:FunB K "check_places" "check_places" sCkPlaces f ["places"]) (G:FnP P w K mg base 1 g ["value", "least", "most"] spWhole) (hg:mg "is_whole_within" = some (.ref g)):FnP P w K mg base 2 f ["places"] spCkPlaces:=by
 refine F.ok scCkPlaces (fun vs H Q E h=>?_) (fun cdv A outer s H vs Q E hr h=>?_)
 ·obtain ⟨x, rfl, _⟩:=h
  rfl
 ·obtain ⟨x, rfl, g1, g2, k⟩:=h
  refine ⟨_, pss_one (ps_if (pt_not (pt_val (pe_callP G hr hg (pa_cons (pv 0) (pa_cons pe_int (pa_cons pe_int pa_nil)))))) pss_never pss_nil), ?_⟩
  refine ⟨_, rfl, x, _, _, rfl, _, rfl, ?_⟩
  rw [decide_eq_true (show (1:Int) ≤ x from g1), decide_eq_true (show x ≤ 1000 from g2)]
  exact iteF k
def spSInit (C:Addr):Sp:=fun vs H Q _=>∃ (p dx:Addr) (places span part:Int), vs = [.ref p, .int places, .int span, .int part] ∧ H p = some (.ins C dx []) ∧ 1 ≤ places ∧ places ≤ 1000 ∧ 1 ≤ span ∧ span ≤ 10 ^ 20 ∧ 2 ≤ part ∧ part ≤ 10 ^ 30 ∧
 ∀ κ H', (shelves C).is κ -> κ.p = p -> (∀ b, κ.own b -> b = p ∨ H b = none) -> BookAt κ (startS span part) ⟨places, [], []⟩ H' -> (∀ b o, H b = some o -> b ≠ p -> H' b = some o) -> Q .non H'
theorem scSInit:FnScope ["self", "places", "span", "part"] ["self", "places", "span", "part"] (defScope sSInit):=⟨rfl, rfl, rfl, by decide +kernel, rfl, by decide +kernel, by decide +kernel⟩
theorem ok_sInit {f gp gi C0:Addr} (F:FunB K "__init__" "Shelf.__init__" sSInit f ["self", "places", "span", "part"]) (T:STxt K C) (Gp:FnP P w K mg base 2 gp ["places"] spCkPlaces) (hgp:mg "check_places" = some (.ref gp))
  (hC0:mg "Book" = some (.ref C0)) (cm:CMeth K C0 "__init__" gi) (Gi:FnP P w K mg base 4 gi ["self", "span", "part"] (spInit C)):FnP P w K mg base 6 f ["self", "places", "span", "part"] (spSInit C):=by
 refine F.ok scSInit (fun vs H Q E h=>?_) (fun cdv A outer s H vs Q E hr h=>?_)
 ·obtain ⟨p, dx, places, span, part, rfl, _⟩:=h
  rfl
 ·obtain ⟨p, dx, places, span, part, rfl, hp, l1, l2, g1, g2, g3, g4, k⟩:=h
  refine ⟨_, pss_cons (ps_expr (pe_callP Gp (hr.mono (by decide)) hgp (pa_cons (pv 1) pa_nil)))
   (pss_cons (ps_expr (pe_clsP hC0 cm Gi (hr.mono (by decide)) (pa_cons (pv 0) (pa_cons (pv 2) (pa_cons (pv 3) pa_nil)))))
   (pss_cons (ps_fld (pv 0) (pv 1) rfl) (pss_cons (ps_fld (pv 0) pe_dnewK rfl) (pss_one (ps_fld (pv 0) (pe_lst pa_nil) rfl))))), ?_⟩
  refine ⟨_, rfl, places, rfl, l1, l2, ?_⟩
  refine ⟨_, rfl, _, rfl, _, rfl, ?_⟩
  refine ⟨p, dx, span, part, rfl, hp, g1, g2, g3, g4, fun dc dl H1 hdc hdl n0 h1 hc hl k1=>?_⟩
  refine ⟨_, rfl, _, rfl, p, C, dx, _, rfl, h1, T.cl, T.s1, (by show 6 < 1000; decide), ?_⟩
  have npc:p ≠ dc:=ne_of_none hp hdc
  have npl:p ≠ dl:=ne_of_none hp hdl
  intro ds hds
  have nps:p ≠ ds:=ne_of_none upd_same hds
  have ncs:dc ≠ ds:=ne_of_none (by rw [upd_ne npc.symm]; exact hc) hds
  have nls:dl ≠ ds:=ne_of_none (by rw [upd_ne npl.symm]; exact hl) hds
  refine ⟨_, rfl, p, C, dx, _, rfl, (by rw [upd_ne nps]; exact upd_same), T.cl, T.s2, (by show 7 < 1000; decide), ?_⟩
  refine ⟨by show 0 ≤ sizeLine; decide, fun gl hgl=>?_⟩
  have npg:p ≠ gl:=ne_of_none upd_same hgl
  have ncg:dc ≠ gl:=ne_of_none (o:=.dK []) (by rw [upd_ne npc.symm, upd_ne ncs, upd_ne npc.symm]; exact hc) hgl
  have nlg:dl ≠ gl:=ne_of_none (o:=.dK []) (by rw [upd_ne npl.symm, upd_ne nls, upd_ne npl.symm]; exact hl) hgl
  have nsg:ds ≠ gl:=ne_of_none (o:=.dK []) (by rw [upd_ne nps.symm, upd_same]) hgl
  refine ⟨_, rfl, p, C, dx, _, rfl, (by rw [upd_ne npg]; exact upd_same), T.cl, T.s3, (by show 8 < 1000; decide), ?_⟩
  have old:∀ b, H1 b = none -> b ≠ p -> H b = none:=fun b e ne=>by
   cases q:H b with
   | none=>rfl
   | some o=>rw [k1 b o q ne] at e; cases e
  have ds0:H ds = none:=old ds (by rw [upd_ne nps.symm] at hds; exact hds) nps.symm
  have gl0:H gl = none:=old gl (by rw [upd_ne npg.symm, upd_ne nsg.symm, upd_ne npg.symm] at hgl; exact hgl) npg.symm
  have hi:ShIs C (shelfK C p dc dl ds gl) p dc dl ds gl:=⟨rfl, n0, ⟨nps.symm, ncs.symm, nls.symm⟩, ⟨npg.symm, ncg.symm, nlg.symm⟩, nsg⟩
  refine k (shelfK C p dc dl ds gl) _ ⟨p, dc, dl, ds, gl, hi⟩ rfl ?_ ?_ ?_
  ·rintro b (rfl | rfl | rfl | rfl | rfl)
   ·exact .inl rfl
   ·exact .inr hdc
   ·exact .inr hdl
   ·exact .inr ds0
   ·exact .inr gl0
  ·refine ⟨⟨dx, upd_same⟩, ?_, ?_, ⟨?_, ⟨[], ?_, rfl, fun j a g e=>by simp at e⟩, List.nodup_nil, by show 0 ≤ 1000; decide⟩, ?_⟩
   ·show upd _ p _ dc = _
    rw [upd_ne npc.symm, upd_ne ncg, upd_ne npc.symm, upd_ne ncs, upd_ne npc.symm]; exact hc
   ·show upd _ p _ dl = _
    rw [upd_ne npl.symm, upd_ne nlg, upd_ne npl.symm, upd_ne nls, upd_ne npl.symm]; exact hl
   ·show upd _ p _ ds = _
    rw [upd_ne nps.symm, upd_ne nsg, upd_ne nps.symm, upd_same]; rfl
   ·show upd _ p _ gl = _
    rw [upd_ne npg.symm, upd_same]; rfl
   ·rintro b (rfl | rfl | rfl | rfl | rfl)
    ·exact ⟨_, upd_same, by intro xs z; cases z⟩
    ·exact ⟨.dK [], by rw [upd_ne npc.symm, upd_ne ncg, upd_ne npc.symm, upd_ne ncs, upd_ne npc.symm]; exact hc, by intro xs z; cases z⟩
    ·exact ⟨.dK [], by rw [upd_ne npl.symm, upd_ne nlg, upd_ne npl.symm, upd_ne nls, upd_ne npl.symm]; exact hl, by intro xs z; cases z⟩
    ·exact ⟨.dK [], by rw [upd_ne nps.symm, upd_ne nsg, upd_ne nps.symm, upd_same], by intro xs z; cases z⟩
    ·exact ⟨.lst [], by rw [upd_ne npg.symm, upd_same], by intro xs z; cases z⟩
  ·intro b o e hb
   rw [upd_ne hb, upd_ne (ne_of_none e gl0), upd_ne hb, upd_ne (ne_of_none e ds0), upd_ne hb]
   exact k1 b o e hb
end
end Lk

namespace Lk
open PySem L2
theorem passS_names {S:BS} {st:Int} {n:Str} (h:n ∈ namesOf (passS S st).ents):n ∈ namesOf S.ents:=by
 unfold passS at h
 dsimp only at h
 by_cases hp:0 < timesOf S st
 ·rw [if_pos hp] at h; exact ageE_names h
 ·rw [if_neg hp] at h; exact h
theorem stepB_names {S:BS} {ns:List Str} {d:Dd} (gd:GoodD ns d) (h:∀ n ∈ namesOf S.ents, n ∈ ns):∀ n ∈ namesOf (stepB S d).ents, n ∈ ns:=by
 intro n hn
 cases d with
 | rest z=>exact h n (passS_names (S:=deedS S) hn)
 | drop m=>exact h n hn
 | ask m w=>
   have hn:n ∈ namesOf (growE (passS (deedS S) 1).ents m w _):=hn
   rw [growE_names] at hn
   by_cases q:m ∈ namesOf (passS (deedS S) 1).ents
   ·rw [if_pos q] at hn; exact h n (passS_names (S:=deedS S) hn)
   ·rw [if_neg q] at hn
    rcases List.mem_append.mp hn with z | z
    ·exact h n (passS_names (S:=deedS S) z)
    ·rw [List.mem_singleton.mp z]; exact gd.1
structure Now (ns:List Str) (sp pt:Int) (k:Nat) (S:BS):Prop where
 co:Core S k
 dk:S.deeds = (k:Int)
 t0:0 ≤ S.time
 es:S.span = sp
 ep:S.part = pt
 nm:∀ n ∈ namesOf S.ents, n ∈ ns
theorem Now.start (ns:List Str) (sp pt:Int):Now ns sp pt 0 (startS sp pt):=
 ⟨⟨List.nodup_nil, by simp [startS], by simp [startS], Nat.zero_le _⟩, rfl, Int.le_refl _, rfl, rfl, by simp [startS, namesOf]⟩
theorem Now.step {ns:List Str} {sp pt:Int} {k:Nat} {S:BS} (h:Now ns sp pt k S) {d:Dd} (gd:GoodD ns d):Now ns sp pt (k + 1) (stepB S d):=by
 have cd:Core (deedS S) k:=h.co.of rfl
 have ed:S.deeds + 1 = ((k + 1:Nat):Int):=by rw [h.dk]; push_cast; rfl
 have ht:=h.t0
 refine ⟨?_, ?_, ?_, ?_, ?_, stepB_names gd h.nm⟩
 ·cases d with
  | rest z=>exact (cd.pass (st:=z)).up
  | drop m=>exact cd.up
  | ask m w=>
    have:=(cd.pass (st:=1)).grow (n:=m) gd.2.1 gd.2.2
    rw [← ed] at this
    exact this
 ·cases d <;> exact ed
 ·cases d with
  | rest z=>show 0 ≤ S.time + z; have:=gd.1; omega
  | drop m=>exact ht
  | ask m w=>show 0 ≤ S.time + 1; omega
 ·cases d <;> exact h.es
 ·cases d <;> exact h.ep
theorem few_of {S:BS} {ns:List Str} (nd:(namesOf S.ents).Nodup) (nm:∀ n ∈ namesOf S.ents, n ∈ ns) (hl:ns.length ≤ 30):S.ents.length < 64:=by
 have:=PySem.length_le_of_nodup_of_subset _ _ nd nm
 unfold namesOf at this
 rw [List.length_map] at this
 omega
theorem fit_of {S:BS} {ns:List Str} {k:Nat} (c:Core S k) (hk:k ≤ 1000) (s1:1 ≤ S.span) (s2:S.span ≤ 10 ^ 20) (p1:2 ≤ S.part) (p2:S.part ≤ 10 ^ 30) (t0:0 ≤ S.time) (nm:∀ n ∈ namesOf S.ents, n ∈ ns) (hl:ns.length ≤ 30):Fit S:=
 ⟨s1, s2, p1, p2, t0, c.nd, fun e he=>⟨(c.pos e he).1, by have:=(c.pos e he).2.1; omega⟩, c.inj, few_of c.nd nm hl⟩
theorem Now.fit {ns:List Str} {sp pt:Int} {k:Nat} {S:BS} (h:Now ns sp pt k S) (hk:k ≤ 1000) (s1:1 ≤ sp) (s2:sp ≤ 10 ^ 20) (p1:2 ≤ pt) (p2:pt ≤ 10 ^ 30) (hl:ns.length ≤ 30):Fit S:=
 fit_of h.co hk (by rw [h.es]; exact s1) (by rw [h.es]; exact s2) (by rw [h.ep]; exact p1) (by rw [h.ep]; exact p2) h.t0 h.nm hl
theorem Now.fit1 {ns:List Str} {sp pt:Int} {k:Nat} {S:BS} (h:Now ns sp pt k S) (hk:k ≤ 1000) (s1:1 ≤ sp) (s2:sp ≤ 10 ^ 20) (p1:2 ≤ pt) (p2:pt ≤ 10 ^ 30) (hl:ns.length ≤ 30):Fit (passS (deedS S) 1):=by
 have cd:Core (deedS S) k:=h.co.of rfl
 have ht:=h.t0
 exact fit_of (cd.pass (st:=1)) hk (by show 1 ≤ S.span; rw [h.es]; exact s1) (by show S.span ≤ _; rw [h.es]; exact s2) (by show 2 ≤ S.part; rw [h.ep]; exact p1) (by show S.part ≤ _; rw [h.ep]; exact p2) (by show 0 ≤ S.time + 1; omega) (fun n hn=>h.nm n (passS_names (S:=deedS S) hn)) hl
theorem stand_names {S:BS} {t:ShS} {ns:List Str} (h:StandIn S t) (nm:∀ n ∈ namesOf S.ents, n ∈ ns):∀ n ∈ t.stand, n ∈ ns:=fun n hn=>by
 obtain ⟨e, he⟩:=h n hn
 exact nm n (List.mem_map.mpr ⟨e, findE_mem he, (findE_some he).1⟩)
theorem sortable_stand {S:BS} {t:ShS} {ns:List Str} {k:Nat} (h:StandIn S t) (c:Core S k) (nd:t.stand.Nodup) (nm:∀ n ∈ namesOf S.ents, n ∈ ns) (hl:ns.length ≤ 30):Sortable S t.stand:=
 ⟨h, by have:=PySem.length_le_of_nodup_of_subset _ _ nd (stand_names h nm); omega, nd, c.inj⟩
theorem lexLt_irr:∀ a:List Int, HT.lexLt a a = false
 | []=>rfl
 | x :: r=>by rw [HT.lexLt_cons, if_pos rfl, lexLt_irr r]
theorem lexLt_asy:∀ {a b:List Int}, HT.lexLt a b = true -> HT.lexLt b a = false
 | [], [], h=>by cases h
 | [], _ :: _, _=>rfl
 | _ :: _, [], h=>by cases h
 | x :: r, y :: s, h=>by
   rw [HT.lexLt_cons] at h ⊢
   by_cases e:x = y
   ·rw [if_pos e] at h; rw [if_pos e.symm]; exact lexLt_asy h
   ·rw [if_neg e] at h; rw [if_neg (fun z=>e z.symm)]
    have:=of_decide_eq_true h
    exact decide_eq_false (by omega)
theorem lexLt_tri:∀ {a b:List Int}, a.length = b.length -> HT.lexLt a b = false -> HT.lexLt b a = false -> a = b
 | [], [], _, _, _=>rfl
 | [], _ :: _, h, _, _=>by cases h
 | _ :: _, [], h, _, _=>by cases h
 | x :: r, y :: s, h, h1, h2=>by
   rw [HT.lexLt_cons] at h1 h2
   by_cases e:x = y
   ·rw [if_pos e] at h1; rw [if_pos e.symm] at h2
    rw [e, lexLt_tri (Nat.succ.inj h) h1 h2]
   ·rw [if_neg e] at h1; rw [if_neg (fun z=>e z.symm)] at h2
    have h1:=of_decide_eq_false h1
    have h2:=of_decide_eq_false h2
    omega
theorem keys_inj {S:BS} {a b:Str} (inj:∀ x ∈ S.ents, ∀ y ∈ S.ents, x.2.2 = y.2.2 -> x.1 = y.1) (ha:∃ e, findE S.ents a = some e) (hb:∃ e, findE S.ents b = some e) (h1:HT.lexLt (keyOf S a) (keyOf S b) = false) (h2:HT.lexLt (keyOf S b) (keyOf S a) = false):a = b:=by
 obtain ⟨x, hx⟩:=ha
 obtain ⟨y, hy⟩:=hb
 unfold keyOf at h1 h2
 rw [hx, hy] at h1 h2
 have e:=lexLt_tri (by rfl) h1 h2
 have hl:x.2.2 = y.2.2:=(List.cons.inj (List.cons.inj e).2).1
 have:=inj x (findE_mem hx) y (findE_mem hy) hl
 rw [(findE_some hx).1, (findE_some hy).1] at this
 exact this
theorem sublist_of {S:BS}:∀ {ys xs:List Str}, xs.Pairwise (fun a b=>HT.lexLt (keyOf S a) (keyOf S b) = true) -> ys.Pairwise (fun a b=>HT.lexLt (keyOf S a) (keyOf S b) = true) -> (∀ x ∈ xs, x ∈ ys) -> xs.Sublist ys
 | [], xs, _, _, h=>by
   have:xs = []:=List.eq_nil_iff_forall_not_mem.mpr fun x hx=>by simpa using h x hx
   rw [this]
   exact List.Sublist.refl _
 | y :: r, [], _, _, _=>List.nil_sublist _
 | y :: r, x :: s, hx, hy, h=>by
   obtain ⟨hx1, hx2⟩:=List.pairwise_cons.mp hx
   obtain ⟨hy1, hy2⟩:=List.pairwise_cons.mp hy
   by_cases e:x = y
   ·subst e
    refine List.Sublist.cons₂ _ (sublist_of hx2 hy2 fun z hz=>?_)
    rcases List.mem_cons.mp (h z (List.mem_cons_of_mem _ hz)) with q | q
    ·subst q
     have:=hx1 z hz
     rw [lexLt_irr] at this
     cases this
    ·exact q
   ·refine List.Sublist.cons _ (sublist_of hx hy2 fun z hz=>?_)
    have hxr:x ∈ r:=(List.mem_cons.mp (h x List.mem_cons_self)).resolve_left e
    rcases List.mem_cons.mp (h z hz) with q | q
    ·subst q
     rcases List.mem_cons.mp hz with q | q
     ·exact absurd q.symm e
     ·have h1:=hx1 z q
      have h2:=hy1 x hxr
      rw [lexLt_asy h1] at h2
      cases h2
    ·exact q
def DeedT (S:BS) (d:Dd) (t t':ShS) (v:V):Prop:=match d with
 | .ask n _=>∃ t1, Passed (deedS S) 1 t t1 ∧ AskT (passS (deedS S) 1) n t1 t' ∧ v = .bl (decide (n ∈ t1.stand))
 | .rest k=>Passed (deedS S) k t t' ∧ v = .int (timesOf S k)
 | .drop n=>DropT S n t t' ∧ v = .bl (decide (n ∈ t.stand))
def spDoS (C:Addr):Sp:=fun vs H Q _=>∃ (κ:Kd ShS) (S:BS) (t:ShS) (q:Addr) (d:Dd) (ns:List Str), (shelves C).is κ ∧ vs = [.ref κ.p, .ref q] ∧ H q = some (.tup (Dd.v d)) ∧ BookAt κ S t H ∧ Fit S ∧ Fit (passS (deedS S) 1) ∧ GoodD ns d ∧ (∀ n ∈ ns, GoodName n) ∧ StandIn S t ∧ 1 ≤ t.places ∧ t.many < 1000 ∧
 ∀ t' v H', DeedT S d t t' v -> BookAt κ (stepB S d) t' H' -> Fr κ H H' -> Q v H'
theorem doS_do {C:Addr} {vs:List V} {H:Hp} {Q:VK} {E:XK} (h:spDoS C vs H Q E):spDo C (spSAsk C) (spRest (shelves C) fadeS) (spSDrop C) vs H Q E:=by
 obtain ⟨κ, S, t, q, d, ns, hκ, rfl, hq, B, fit, fit1, gd, gn, sin, pl, few, k⟩:=h
 obtain ⟨dx, h1⟩:=B.ob
 have hC:=(shelves C).cls κ hκ
 have O:=(shelves C).ok κ hκ
 rw [hC] at h1
 refine ⟨κ.p, q, dx, d, _, rfl, hq, h1, B.fno O (by decide +kernel) (by decide +kernel), B.fno O (by decide +kernel) (by decide +kernel), B.fno O (by decide +kernel) (by decide +kernel), ?_⟩
 cases d with
 | ask n w=>exact ⟨κ, S, t, n, w, hκ, rfl, B, fit, fit1, gn n gd.1, gd.2.1, gd.2.2, sin, pl, few, fun t1 t' H' p a b f=>k t' _ H' ⟨t1, p, a, rfl⟩ b f⟩
 | rest z=>exact ⟨κ, S, t, z, hκ, rfl, B, fit, gd.1, gd.2, fun t' H' p b f=>k t' _ H' ⟨passed_of p, rfl⟩ b f⟩
 | drop n=>exact ⟨κ, S, t, n, hκ, rfl, B, gn n gd, sin, fun t' H' p b f=>k t' _ H' ⟨p, rfl⟩ b f⟩
theorem inS_many {t:ShS} {n:Str}:(inS t n).many = t.many + 1:=by
 unfold ShS.many inS
 dsimp only
 rw [List.length_append]
 show _ + (_ + 1) = _
 omega
theorem askT_many {S:BS} {n:Str} {t t':ShS} (nd:t.stand.Nodup) (h:AskT S n t t'):t'.many ≤ t.many + 1:=by
 unfold AskT at h
 by_cases hn:n ∈ t.stand
 ·rw [if_pos hn] at h; rw [h]; omega
 ·rw [if_neg hn] at h
  unfold TakeIn at h
  by_cases hf:(t.stand.length:Int) = t.places
  ·rw [if_pos hf] at h
   obtain ⟨m, hm, _, rfl⟩:=h
   rw [inS_many, offS_many nd hm]
   omega
  ·rw [if_neg hf] at h
   rw [h, inS_many]
   omega
theorem dropT_stand {S:BS} {n:Str} {t t':ShS} (h:DropT S n t t'):t'.stand = t.stand.filter (fun m=>decide (m ≠ n)) ∧ t'.places = t.places ∧ (t.stand.Nodup -> t'.many = t.many):=by
 unfold DropT at h
 by_cases hn:n ∈ t.stand
 ·rw [if_pos hn] at h; subst h
  exact ⟨rfl, rfl, fun nd=>offS_many nd hn⟩
 ·rw [if_neg hn] at h; subst h
  exact ⟨(filter_ne_none hn).symm, rfl, fun _=>rfl⟩
theorem deedT_many {S:BS} {d:Dd} {t t':ShS} {v:V} (nd:t.stand.Nodup) (h:DeedT S d t t' v):t'.many ≤ t.many + 1:=by
 cases d with
 | ask n w=>
   obtain ⟨t1, p, a, _⟩:=h
   have:=askT_many (by rw [p.st]; exact List.filter_sublist.nodup nd) a
   rw [p.mn nd] at this
   exact this
 | rest z=>obtain ⟨p, _⟩:=h; rw [p.mn nd]; omega
 | drop n=>obtain ⟨p, _⟩:=h; rw [(dropT_stand p).2.2 nd]; omega
end Lk

namespace Lk
open PySem L2
abbrev Line:=List (Option Str)
def Has (L:Line) (i:Nat) (m:Str):Prop:=L[i]? = some (some m)
def InP (L:Line) (p:Nat) (m:Str):Prop:=∃ i, i < p ∧ Has L i m
def Full (L:Line) (p:Nat):Prop:=∀ i, i < p -> ∃ m, Has L i m
def ND (L:Line):Prop:=∀ i j m, Has L i m -> Has L j m -> i = j
def trim:Line -> Line
 | []=>[]
 | x :: r=>match x, trim r with
   | none, []=>[]
   | y, s=>y :: s
theorem trim_cons (x:Option Str) (r:Line):trim (x :: r) = if x = none ∧ trim r = [] then [] else x :: trim r:=by
 cases x with
 | none=>
   cases h:trim r with
   | nil=>rw [if_pos ⟨rfl, rfl⟩]; show (match (none:Option Str), trim r with | none, []=>[] | y, s=>y :: s) = _; rw [h]
   | cons y s=>rw [if_neg (fun z=>by cases z.2)]; show (match (none:Option Str), trim r with | none, []=>[] | y, s=>y :: s) = _; rw [h]
 | some m=>rw [if_neg (fun z=>by cases z.1)]; rfl
theorem has_trim {m:Str}:∀ {L:Line} {i:Nat}, Has (trim L) i m ↔ Has L i m
 | [], i=>Iff.rfl
 | x :: r, i=>by
   rw [trim_cons]
   by_cases h:x = none ∧ trim r = []
   ·rw [if_pos h]
    refine ⟨fun z=>by simp [Has] at z, fun z=>?_⟩
    cases i with
    | zero=>rw [h.1] at z; simp [Has] at z
    | succ i=>
      have z:Has r i m:=by simpa [Has] using z
      rw [← has_trim, h.2] at z
      simp [Has] at z
   ·rw [if_neg h]
    cases i with
    | zero=>exact Iff.rfl
    | succ i=>simpa [Has] using has_trim (L:=r) (i:=i) (m:=m)
theorem trim_snoc_none (L:Line):trim (L ++ [none]) = trim L:=by
 induction L with
 | nil=>rfl
 | cons x r ih=>rw [List.cons_append, trim_cons, trim_cons, ih]
theorem trim_snoc_some (L:Line) (m:Str):trim (L ++ [some m]) = L ++ [some m]:=by
 induction L with
 | nil=>rfl
 | cons x r ih=>rw [List.cons_append, trim_cons, ih, if_neg (fun z=>by cases r <;> cases z.2)]
theorem trim_len:∀ L:Line, (trim L).length ≤ L.length
 | []=>Nat.le_refl _
 | x :: r=>by
   rw [trim_cons]
   have:=trim_len r
   by_cases h:x = none ∧ trim r = []
   ·rw [if_pos h]; exact Nat.zero_le _
   ·rw [if_neg h]; simp only [List.length_cons]; omega
def spotN (L:Line) (n:Str):Option Nat:=L.findIdx? fun x=>decide (x = some n)
theorem spotN_some {L:Line} {n:Str} {i:Nat} (h:spotN L n = some i):Has L i n ∧ (∀ j, j < i -> ¬ Has L j n):=by
 obtain ⟨h1, h2, h3⟩:=List.findIdx?_eq_some_iff_getElem.mp h
 refine ⟨?_, fun j hj z=>?_⟩
 ·show L[i]? = some (some n)
  rw [List.getElem?_eq_getElem h1]
  exact congrArg some (of_decide_eq_true h2)
 ·have hjl:j < L.length:=Nat.lt_trans hj h1
  have z:L[j]? = some (some n):=z
  rw [List.getElem?_eq_getElem hjl] at z
  exact h3 j hj (decide_eq_true (Option.some.inj z))
theorem spotN_none {L:Line} {n:Str} (h:spotN L n = none):∀ i, ¬ Has L i n:=fun i z=>by
 have:=List.findIdx?_eq_none_iff.mp h (some n) (List.mem_of_getElem? z)
 exact absurd rfl (of_decide_eq_false this)
def rmv (L:Line) (n:Str):Line:=match spotN L n with
 | some i=>trim (L.set i none)
 | none=>L
theorem has_set {L:Line} {i j:Nat} {m:Str}:Has (L.set i none) j m ↔ Has L j m ∧ j ≠ i:=by
 unfold Has
 by_cases e:j = i
 ·subst e
  refine ⟨fun z=>?_, fun z=>absurd rfl z.2⟩
  by_cases h:j < L.length
  ·rw [List.getElem?_set_self h] at z; cases z
  ·rw [List.getElem?_eq_none (by rw [List.length_set]; omega)] at z; cases z
 ·rw [List.getElem?_set_ne (fun z=>e z.symm)]
  exact ⟨fun z=>⟨z, e⟩, fun z=>z.1⟩
theorem has_rmv {L:Line} {n m:Str} {i:Nat} (nd:ND L):Has (rmv L n) i m ↔ Has L i m ∧ m ≠ n:=by
 unfold rmv
 cases e:spotN L n with
 | none=>
   refine ⟨fun z=>⟨z, fun y=>?_⟩, fun z=>z.1⟩
   rw [y] at z; exact spotN_none e i z
 | some j=>
   show Has (trim (L.set j none)) i m ↔ _
   rw [has_trim, has_set]
   have hj:=(spotN_some e).1
   refine ⟨fun z=>⟨z.1, fun y=>z.2 ?_⟩, fun z=>⟨z.1, fun y=>z.2 ?_⟩⟩
   ·subst y; exact nd i j m z.1 hj
   ·subst y
    have:some (some m) = some (some n):=z.1.symm.trans hj
    exact Option.some.inj (Option.some.inj this)
theorem nd_of_has {L L':Line} (nd:ND L) (h:∀ i m, Has L' i m -> Has L i m):ND L':=fun i j m a b=>nd i j m (h i m a) (h j m b)
theorem rmv_len (L:Line) (n:Str):(rmv L n).length ≤ L.length:=by
 unfold rmv
 cases spotN L n with
 | none=>exact Nat.le_refl _
 | some j=>exact Nat.le_trans (trim_len _) (by rw [List.length_set]; exact Nat.le_refl _)
theorem has_lt {L:Line} {i:Nat} {m:Str} (h:Has L i m):i < L.length:=(List.getElem?_eq_some_iff.mp h).1
def carry (S:BS):Str -> Line -> Line
 | c, []=>[some c]
 | c, none :: r=>some c :: r
 | c, some t :: r=>if HT.lexLt (keyOf S t) (keyOf S c) = true then some c :: carry S t r else some t :: carry S c r
def bring (S:BS) (n:Str):Line -> Line
 | []=>[some n]
 | none :: r=>some n :: r
 | some t :: r=>some n :: carry S t r
theorem has_zero {x:Option Str} {r:Line} {m:Str}:Has (x :: r) 0 m ↔ x = some m:=by
 unfold Has
 rw [List.getElem?_cons_zero]
 exact ⟨fun z=>Option.some.inj z, fun z=>by rw [z]⟩
theorem has_succ {x:Option Str} {r:Line} {i:Nat} {m:Str}:Has (x :: r) (i + 1) m ↔ Has r i m:=by unfold Has; rw [List.getElem?_cons_succ]
theorem inP_cons {x:Option Str} {r:Line} {p:Nat} {m:Str}:InP (x :: r) (p + 1) m ↔ x = some m ∨ InP r p m:=by
 constructor
 ·rintro ⟨i, hi, h⟩
  cases i with
  | zero=>exact .inl (has_zero.mp h)
  | succ i=>exact .inr ⟨i, by omega, has_succ.mp h⟩
 ·rintro (h | ⟨i, hi, h⟩)
  ·exact ⟨0, by omega, has_zero.mpr h⟩
  ·exact ⟨i + 1, by omega, has_succ.mpr h⟩
theorem inP_nil {p:Nat} {m:Str}:¬ InP [] p m:=fun ⟨i, _, h⟩=>by simp [Has] at h
theorem full_cons {x:Option Str} {r:Line} {p:Nat}:Full (x :: r) (p + 1) ↔ x ≠ none ∧ Full r p:=by
 constructor
 ·intro h
  refine ⟨fun z=>?_, fun i hi=>?_⟩
  ·obtain ⟨m, hm⟩:=h 0 (by omega)
   rw [has_zero.mp hm] at z; cases z
  ·obtain ⟨m, hm⟩:=h (i + 1) (by omega)
   exact ⟨m, has_succ.mp hm⟩
 ·rintro ⟨h1, h2⟩ i hi
  cases i with
  | zero=>
    cases x with
    | none=>exact absurd rfl h1
    | some m=>exact ⟨m, has_zero.mpr rfl⟩
  | succ i=>
    obtain ⟨m, hm⟩:=h2 i (by omega)
    exact ⟨m, has_succ.mpr hm⟩
theorem nd_cons {x:Option Str} {r:Line} (h:ND (x :: r)):ND r ∧ ∀ i m, x = some m -> ¬ Has r i m:=
 ⟨fun i j m a b=>Nat.succ.inj (h (i + 1) (j + 1) m (has_succ.mpr a) (has_succ.mpr b)), fun i m e z=>by have:=h 0 (i + 1) m (has_zero.mpr e) (has_succ.mpr z); omega⟩
theorem carry_hole {S:BS}:∀ {L:Line} {c:Str} {p:Nat}, ¬ Full L p -> ∀ m, InP (carry S c L) p m ↔ m = c ∨ InP L p m
 | L, c, 0, h=>absurd (fun i hi=>by omega) h
 | [], c, p + 1, h=>fun m=>by
   show InP [some c] (p + 1) m ↔ _
   rw [inP_cons]
   exact ⟨fun z=>z.elim (fun e=>.inl (Option.some.inj e).symm) fun e=>absurd e inP_nil, fun z=>z.elim (fun e=>.inl (by rw [e])) fun e=>absurd e inP_nil⟩
 | none :: r, c, p + 1, h=>fun m=>by
   show InP (some c :: r) (p + 1) m ↔ _
   rw [inP_cons, inP_cons]
   exact ⟨fun z=>z.elim (fun e=>.inl (Option.some.inj e).symm) fun e=>.inr (.inr e), fun z=>z.elim (fun e=>.inl (by rw [e])) fun e=>e.elim (fun e=>by cases e) .inr⟩
 | some t :: r, c, p + 1, h=>fun m=>by
   have h':¬ Full r p:=fun z=>h (full_cons.mpr ⟨by simp, z⟩)
   unfold carry
   by_cases e:HT.lexLt (keyOf S t) (keyOf S c) = true
   ·rw [if_pos e, inP_cons, inP_cons, carry_hole h' m]
    exact ⟨fun z=>z.elim (fun e=>.inl (Option.some.inj e).symm) fun e=>e.elim (fun e=>.inr (.inl (by rw [e]))) fun e=>.inr (.inr e), fun z=>z.elim (fun e=>.inl (by rw [e])) fun e=>.inr (e.elim (fun e=>.inl (Option.some.inj e).symm) .inr)⟩
   ·rw [if_neg e, inP_cons, inP_cons, carry_hole h' m]
    exact ⟨fun z=>z.elim (fun e=>.inr (.inl e)) fun e=>e.elim .inl fun e=>.inr (.inr e), fun z=>z.elim (fun e=>.inr (.inl e)) fun e=>e.elim .inl fun e=>.inr (.inr e)⟩
def LineIn (S:BS) (L:Line):Prop:=∀ i m, Has L i m -> ∃ e, findE S.ents m = some e
theorem lexLt_trs:∀ {a b c:List Int}, HT.lexLt a b = true -> HT.lexLt b c = true -> HT.lexLt a c = true:=lexLt_tr
theorem carry_full {S:BS} (inj:∀ x ∈ S.ents, ∀ y ∈ S.ents, x.2.2 = y.2.2 -> x.1 = y.1):∀ {L:Line} {c:Str} {p:Nat}, Full L p -> ND L -> (∀ i, ¬ Has L i c) -> LineIn S L -> (∃ e, findE S.ents c = some e) ->
  ∃ w, (w = c ∨ InP L p w) ∧ (∀ x, (x = c ∨ InP L p x) -> HT.lexLt (keyOf S x) (keyOf S w) = false) ∧ ∀ m, InP (carry S c L) p m ↔ (m = c ∨ InP L p m) ∧ m ≠ w
 | L, c, 0, _, _, _, _, _=>⟨c, .inl rfl, fun x hx=>by
    rcases hx with e | ⟨i, hi, _⟩
    ·rw [e, Lk.lexLt_irr]
    ·omega, fun m=>⟨fun ⟨i, hi, _⟩=>by omega, fun ⟨h1, h2⟩=>by
    rcases h1 with e | ⟨i, hi, _⟩
    ·exact absurd e h2
    ·omega⟩⟩
 | [], c, p + 1, h, _, _, _, _=>by
   obtain ⟨m, hm⟩:=h 0 (by omega)
   simp [Has] at hm
 | none :: r, c, p + 1, h, _, _, _, _=>absurd rfl (full_cons.mp h).1
 | some t :: r, c, p + 1, h, nd, hc, li, ce=>by
   have hr:=(full_cons.mp h).2
   obtain ⟨nr, nt⟩:=nd_cons nd
   have lr:LineIn S r:=fun i m z=>li (i + 1) m (has_succ.mpr z)
   have te:∃ e, findE S.ents t = some e:=li 0 t (has_zero.mpr rfl)
   have htr:∀ i, ¬ Has r i t:=fun i z=>nt i t rfl z
   have hcr:∀ i, ¬ Has r i c:=fun i z=>hc (i + 1) (has_succ.mpr z)
   have hct:c ≠ t:=fun z=>hc 0 (has_zero.mpr (by rw [z]))
   unfold carry
   by_cases e:HT.lexLt (keyOf S t) (keyOf S c) = true
   ·obtain ⟨w, hw, hmin, heq⟩:=carry_full inj hr nr htr lr te
    have hwc:w ≠ c:=fun z=>by
     rcases hw with y | ⟨i, _, y⟩
     ·exact hct (z.symm.trans y)
     ·rw [z] at y; exact hcr i y
    refine ⟨w, ?_, fun x hx=>?_, fun m=>?_⟩
    ·rcases hw with y | y
     ·exact .inr (inP_cons.mpr (.inl (by rw [y])))
     ·exact .inr (inP_cons.mpr (.inr y))
    ·rcases hx with y | y
     ·subst y
      cases q:HT.lexLt (keyOf S x) (keyOf S w) with
      | false=>rfl
      | true=>
        have:=lexLt_trs e q
        rw [hmin t (.inl rfl)] at this
        cases this
     ·rcases inP_cons.mp y with y | y
      ·rw [← Option.some.inj y]; exact hmin t (.inl rfl)
      ·exact hmin x (.inr y)
    ·rw [if_pos e, inP_cons, heq m, inP_cons]
     constructor
     ·rintro (y | ⟨y, z⟩)
      ·have y:=(Option.some.inj y).symm
       exact ⟨.inl y, fun z=>hwc (z.symm.trans y)⟩
      ·refine ⟨.inr (y.imp (fun y=>by rw [y]) id), z⟩
     ·rintro ⟨y | y, z⟩
      ·exact .inl (by rw [y])
      ·exact .inr ⟨y.imp (fun y=>(Option.some.inj y).symm) id, z⟩
   ·have e':HT.lexLt (keyOf S t) (keyOf S c) = false:=by simpa using e
    obtain ⟨w, hw, hmin, heq⟩:=carry_full inj hr nr hcr lr ce
    have hwt:w ≠ t:=fun z=>by
     rcases hw with y | ⟨i, _, y⟩
     ·exact hct (y.symm.trans z)
     ·rw [z] at y; exact htr i y
    have ct:HT.lexLt (keyOf S c) (keyOf S t) = true:=by
     cases q:HT.lexLt (keyOf S c) (keyOf S t) with
     | true=>rfl
     | false=>exact absurd (keys_inj inj ce te q e') hct
    refine ⟨w, ?_, fun x hx=>?_, fun m=>?_⟩
    ·rcases hw with y | y
     ·exact .inl y
     ·exact .inr (inP_cons.mpr (.inr y))
    ·rcases hx with y | y
     ·exact hmin x (.inl y)
     ·rcases inP_cons.mp y with y | y
      ·rw [← Option.some.inj y]
       cases q:HT.lexLt (keyOf S t) (keyOf S w) with
       | false=>rfl
       | true=>
         have:=lexLt_trs ct q
         rw [hmin c (.inl rfl)] at this
         cases this
      ·exact hmin x (.inr y)
    ·rw [if_neg e, inP_cons, heq m, inP_cons]
     constructor
     ·rintro (y | ⟨y, z⟩)
      ·exact ⟨.inr (.inl y), fun z=>hwt (by rw [← z]; exact (Option.some.inj y).symm)⟩
      ·exact ⟨y.imp id .inr, z⟩
     ·rintro ⟨y | y, z⟩
      ·exact .inr ⟨.inl y, z⟩
      ·rcases y with y | y
       ·exact .inl y
       ·exact .inr ⟨.inr y, z⟩
theorem bring_hole {S:BS} {n:Str} {L:Line} {p:Nat} (h:¬ Full L p) (m:Str):InP (bring S n L) p m ↔ m = n ∨ InP L p m:=by
 cases p with
 | zero=>exact absurd (fun i hi=>by omega) h
 | succ p=>
   match L, h with
   | [], h=>
     show InP [some n] (p + 1) m ↔ _
     rw [inP_cons]
     exact ⟨fun z=>z.elim (fun e=>.inl (Option.some.inj e).symm) fun e=>absurd e inP_nil, fun z=>z.elim (fun e=>.inl (by rw [e])) fun e=>absurd e inP_nil⟩
   | none :: r, h=>
     show InP (some n :: r) (p + 1) m ↔ _
     rw [inP_cons, inP_cons]
     exact ⟨fun z=>z.elim (fun e=>.inl (Option.some.inj e).symm) fun e=>.inr (.inr e), fun z=>z.elim (fun e=>.inl (by rw [e])) fun e=>e.elim (fun e=>by cases e) .inr⟩
   | some t :: r, h=>
     have h':¬ Full r p:=fun z=>h (full_cons.mpr ⟨by simp, z⟩)
     show InP (some n :: carry S t r) (p + 1) m ↔ _
     rw [inP_cons, inP_cons, carry_hole h' m]
     exact ⟨fun z=>z.elim (fun e=>.inl (Option.some.inj e).symm) fun e=>.inr (e.imp (fun e=>by rw [e]) id), fun z=>z.elim (fun e=>.inl (by rw [e])) fun e=>.inr (e.imp (fun e=>(Option.some.inj e).symm) id)⟩
theorem bring_full {S:BS} (inj:∀ x ∈ S.ents, ∀ y ∈ S.ents, x.2.2 = y.2.2 -> x.1 = y.1) {n:Str} {L:Line} {p:Nat} (hp:1 ≤ p) (h:Full L p) (nd:ND L) (li:LineIn S L) :
  ∃ w, InP L p w ∧ (∀ x, InP L p x -> HT.lexLt (keyOf S x) (keyOf S w) = false) ∧ ∀ m, InP (bring S n L) p m ↔ m = n ∨ (InP L p m ∧ m ≠ w):=by
 cases p with
 | zero=>omega
 | succ p=>
   match L, h, nd, li with
   | [], h, _, _=>
     obtain ⟨m, hm⟩:=h 0 (by omega)
     simp [Has] at hm
   | none :: r, h, _, _=>exact absurd rfl (full_cons.mp h).1
   | some t :: r, h, nd, li=>
     obtain ⟨nr, nt⟩:=nd_cons nd
     obtain ⟨w, hw, hmin, heq⟩:=carry_full (S:=S) inj (full_cons.mp h).2 nr (fun i z=>nt i t rfl z) (fun i m z=>li (i + 1) m (has_succ.mpr z)) (li 0 t (has_zero.mpr rfl))
     have key:∀ x, InP (some t :: r) (p + 1) x ↔ x = t ∨ InP r p x:=fun x=>by
      rw [inP_cons]
      exact ⟨fun z=>z.imp (fun e=>(Option.some.inj e).symm) id, fun z=>z.imp (fun e=>by rw [e]) id⟩
     refine ⟨w, (key w).mpr hw, fun x hx=>hmin x ((key x).mp hx), fun m=>?_⟩
     show InP (some n :: carry S t r) (p + 1) m ↔ _
     rw [inP_cons, heq m, key m]
     exact ⟨fun z=>z.imp (fun e=>(Option.some.inj e).symm) id, fun z=>z.imp (fun e=>by rw [e]) id⟩
theorem has_carry {S:BS}:∀ {L:Line} {c:Str} {i:Nat} {m:Str}, Has (carry S c L) i m -> m = c ∨ ∃ j, Has L j m
 | [], c, i, m, h=>by
   have h:Has [some c] i m:=h
   cases i with
   | zero=>exact .inl (Option.some.inj (has_zero.mp h)).symm
   | succ i=>simp [Has] at h
 | none :: r, c, i, m, h=>by
   have h:Has (some c :: r) i m:=h
   cases i with
   | zero=>exact .inl (Option.some.inj (has_zero.mp h)).symm
   | succ i=>exact .inr ⟨i + 1, has_succ.mpr (has_succ.mp h)⟩
 | some t :: r, c, i, m, h=>by
   unfold carry at h
   by_cases e:HT.lexLt (keyOf S t) (keyOf S c) = true
   ·rw [if_pos e] at h
    cases i with
    | zero=>exact .inl (Option.some.inj (has_zero.mp h)).symm
    | succ i=>
      rcases has_carry (has_succ.mp h) with z | ⟨j, z⟩
      ·exact .inr ⟨0, has_zero.mpr (by rw [z])⟩
      ·exact .inr ⟨j + 1, has_succ.mpr z⟩
   ·rw [if_neg e] at h
    cases i with
    | zero=>exact .inr ⟨0, has_zero.mpr (has_zero.mp h)⟩
    | succ i=>
      rcases has_carry (has_succ.mp h) with z | ⟨j, z⟩
      ·exact .inl z
      ·exact .inr ⟨j + 1, has_succ.mpr z⟩
theorem has_bring {S:BS} {L:Line} {n:Str} {i:Nat} {m:Str} (h:Has (bring S n L) i m):m = n ∨ ∃ j, Has L j m:=by
 match L, h with
 | [], h=>
   have h:Has [some n] i m:=h
   cases i with
   | zero=>exact .inl (Option.some.inj (has_zero.mp h)).symm
   | succ i=>simp [Has] at h
 | none :: r, h=>
   have h:Has (some n :: r) i m:=h
   cases i with
   | zero=>exact .inl (Option.some.inj (has_zero.mp h)).symm
   | succ i=>exact .inr ⟨i + 1, has_succ.mpr (has_succ.mp h)⟩
 | some t :: r, h=>
   have h:Has (some n :: carry S t r) i m:=h
   cases i with
   | zero=>exact .inl (Option.some.inj (has_zero.mp h)).symm
   | succ i=>
     rcases has_carry (has_succ.mp h) with z | ⟨j, z⟩
     ·exact .inr ⟨0, has_zero.mpr (by rw [z])⟩
     ·exact .inr ⟨j + 1, has_succ.mpr z⟩
theorem nd_carry {S:BS}:∀ {L:Line} {c:Str}, ND L -> (∀ i, ¬ Has L i c) -> ND (carry S c L)
 | [], c, _, _=>fun i j m a b=>by
   have a:Has [some c] i m:=a
   have b:Has [some c] j m:=b
   have:=has_lt a
   have:=has_lt b
   simp only [List.length_singleton] at *
   omega
 | none :: r, c, nd, hc=>by
   show ND (some c :: r)
   intro i j m a b
   cases i with
   | zero=>
     cases j with
     | zero=>rfl
     | succ j=>exact absurd (show Has (none :: r) (j + 1) c from by rw [Option.some.inj (has_zero.mp a)]; exact has_succ.mpr (has_succ.mp b)) (hc (j + 1))
   | succ i=>
     cases j with
     | zero=>exact absurd (show Has (none :: r) (i + 1) c from by rw [Option.some.inj (has_zero.mp b)]; exact has_succ.mpr (has_succ.mp a)) (hc (i + 1))
     | succ j=>exact nd (i + 1) (j + 1) m (has_succ.mpr (has_succ.mp a)) (has_succ.mpr (has_succ.mp b))
 | some t :: r, c, nd, hc=>by
   obtain ⟨nr, nt⟩:=nd_cons nd
   have hct:c ≠ t:=fun z=>hc 0 (has_zero.mpr (by rw [z]))
   unfold carry
   by_cases e:HT.lexLt (keyOf S t) (keyOf S c) = true
   ·rw [if_pos e]
    have n2:=nd_carry (S:=S) nr (c:=t) fun i z=>nt i t rfl z
    have no:∀ i, ¬ Has (carry S t r) i c:=fun i z=>by
     rcases has_carry z with y | ⟨j, y⟩
     ·exact hct y
     ·exact hc (j + 1) (has_succ.mpr y)
    intro i j m a b
    cases i with
    | zero=>
      cases j with
      | zero=>rfl
      | succ j=>exact absurd (by rw [Option.some.inj (has_zero.mp a)]; exact has_succ.mp b) (no j)
    | succ i=>
      cases j with
      | zero=>exact absurd (by rw [Option.some.inj (has_zero.mp b)]; exact has_succ.mp a) (no i)
      | succ j=>exact congrArg _ (n2 i j m (has_succ.mp a) (has_succ.mp b))
   ·rw [if_neg e]
    have n2:=nd_carry (S:=S) nr (c:=c) fun i z=>hc (i + 1) (has_succ.mpr z)
    have no:∀ i, ¬ Has (carry S c r) i t:=fun i z=>by
     rcases has_carry z with y | ⟨j, y⟩
     ·exact hct y.symm
     ·exact nt j t rfl y
    intro i j m a b
    cases i with
    | zero=>
      cases j with
      | zero=>rfl
      | succ j=>exact absurd (by rw [Option.some.inj (has_zero.mp a)]; exact has_succ.mp b) (no j)
    | succ i=>
      cases j with
      | zero=>exact absurd (by rw [Option.some.inj (has_zero.mp b)]; exact has_succ.mp a) (no i)
      | succ j=>exact congrArg _ (n2 i j m (has_succ.mp a) (has_succ.mp b))
theorem nd_bring {S:BS} {L:Line} {n:Str} (nd:ND L) (hn:∀ i, ¬ Has L i n):ND (bring S n L):=by
 match L, nd, hn with
 | [], nd, hn=>exact nd_carry (S:=S) (c:=n) nd hn
 | none :: r, nd, hn=>exact nd_carry (S:=S) (c:=n) nd hn
 | some t :: r, nd, hn=>
   obtain ⟨nr, nt⟩:=nd_cons nd
   have hct:n ≠ t:=fun z=>hn 0 (has_zero.mpr (by rw [z]))
   have n2:=nd_carry (S:=S) nr (c:=t) fun i z=>nt i t rfl z
   have no:∀ i, ¬ Has (carry S t r) i n:=fun i z=>by
    rcases has_carry z with y | ⟨j, y⟩
    ·exact hct y
    ·exact hn (j + 1) (has_succ.mpr y)
   show ND (some n :: carry S t r)
   intro i j m a b
   cases i with
   | zero=>
     cases j with
     | zero=>rfl
     | succ j=>exact absurd (by rw [Option.some.inj (has_zero.mp a)]; exact has_succ.mp b) (no j)
   | succ i=>
     cases j with
     | zero=>exact absurd (by rw [Option.some.inj (has_zero.mp b)]; exact has_succ.mp a) (no i)
     | succ j=>exact congrArg _ (n2 i j m (has_succ.mp a) (has_succ.mp b))
def namesL (L:Line):List Str:=L.filterMap id
theorem mem_namesL {L:Line} {m:Str}:m ∈ namesL L ↔ ∃ i, Has L i m:=by
 unfold namesL
 rw [List.mem_filterMap]
 constructor
 ·rintro ⟨x, hx, e⟩
  obtain ⟨i, hi, rfl⟩:=List.mem_iff_getElem.mp hx
  exact ⟨i, by unfold Has; rw [List.getElem?_eq_getElem hi]; exact congrArg some e⟩
 ·rintro ⟨i, h⟩
  exact ⟨some m, List.mem_of_getElem? h, rfl⟩
theorem nodup_namesL:∀ {L:Line}, ND L -> (namesL L).Nodup
 | [], _=>List.nodup_nil
 | none :: r, nd=>nodup_namesL (L:=r) (nd_cons nd).1
 | some t :: r, nd=>List.nodup_cons.mpr ⟨fun z=>by obtain ⟨i, h⟩:=mem_namesL.mp z; exact (nd_cons nd).2 i t rfl h, nodup_namesL (nd_cons nd).1⟩
theorem namesL_len:∀ L:Line, (namesL L).length ≤ L.length
 | []=>Nat.le_refl _
 | none :: r=>Nat.le_succ_of_le (namesL_len r)
 | some t :: r=>Nat.succ_le_succ (namesL_len r)
theorem namesL_full:∀ {L:Line}, (namesL L).length = L.length ↔ Full L L.length
 | []=>⟨fun _ i hi=>by simp at hi, fun _=>rfl⟩
 | none :: r=>by
   have:=namesL_len r
   refine ⟨fun z=>?_, fun z=>absurd rfl (full_cons.mp z).1⟩
   have z:(namesL r).length = r.length + 1:=z
   omega
 | some t :: r=>by
   show (namesL r).length + 1 = r.length + 1 ↔ Full (some t :: r) (r.length + 1)
   rw [full_cons, ← namesL_full (L:=r)]
   exact ⟨fun z=>⟨by simp, Nat.succ.inj z⟩, fun z=>congrArg _ z.2⟩
theorem has_take {L:Line} {p i:Nat} {m:Str}:Has (L.take p) i m ↔ Has L i m ∧ i < p:=by
 unfold Has
 rw [List.getElem?_take]
 by_cases h:i < p
 ·rw [if_pos h]; exact ⟨fun z=>⟨z, h⟩, fun z=>z.1⟩
 ·rw [if_neg h]; exact ⟨fun z=>(by cases z), fun z=>absurd z.2 h⟩
theorem mem_take {L:Line} {p:Nat} {m:Str}:m ∈ namesL (L.take p) ↔ InP L p m:=by
 rw [mem_namesL]
 exact ⟨fun ⟨i, h⟩=>⟨i, (has_take.mp h).2, (has_take.mp h).1⟩, fun ⟨i, h1, h2⟩=>⟨i, has_take.mpr ⟨h2, h1⟩⟩⟩
theorem nd_take {L:Line} (nd:ND L) (p:Nat):ND (L.take p):=nd_of_has nd fun i m h=>(has_take.mp h).1
theorem full_iff {L:Line} {p:Nat} {st:List Str} (nd:ND L) (ns:st.Nodup) (h:∀ m, m ∈ st ↔ InP L p m):st.length = p ↔ Full L p:=by
 have e:st.length = (namesL (L.take p)).length:=Nat.le_antisymm
  (PySem.length_le_of_nodup_of_subset _ _ ns fun m hm=>mem_take.mpr ((h m).mp hm))
  (PySem.length_le_of_nodup_of_subset _ _ (nodup_namesL (nd_take nd p)) fun m hm=>(h m).mpr (mem_take.mp hm))
 have l1:=namesL_len (L.take p)
 rw [List.length_take] at l1
 constructor
 ·intro z
  have hl:(L.take p).length = p:=by rw [List.length_take]; omega
  have:=(namesL_full (L:=L.take p)).mp (by omega)
  rw [hl] at this
  intro i hi
  obtain ⟨m, hm⟩:=this i hi
  exact ⟨m, (has_take.mp hm).1⟩
 ·intro z
  have hl:(L.take p).length = p:=by
   rw [List.length_take]
   by_cases hp:p ≤ L.length
   ·omega
   ·obtain ⟨m, hm⟩:=z L.length (by omega)
    have:=has_lt hm
    omega
  have:=(namesL_full (L:=L.take p)).mpr (fun i hi=>by
   rw [hl] at hi
   obtain ⟨m, hm⟩:=z i hi
   exact ⟨m, has_take.mpr ⟨hm, hi⟩⟩)
  omega
end Lk

namespace Lk
open PySem L2
abbrev sRow:Stmt:=top 20
abbrev sRInit:Stmt:=inClass sRow 0
abbrev sRAsk:Stmt:=inClass sRow 1
abbrev sRDrop:Stmt:=inClass sRow 2
abbrev sRNames:Stmt:=inClass sRow 3
abbrev sSpots:Stmt:=inClass sRow 4
abbrev sNamesAt:Stmt:=inClass sRow 5
abbrev sNamesOn:Stmt:=inClass sRow 8
abbrev sSpotOf:Stmt:=inClass sRow 9
abbrev sLeave:Stmt:=inClass sRow 10
abbrev sBringIn:Stmt:=inClass sRow 11
abbrev sRFade:Stmt:=inClass sRow 12
structure RoS where
 line:Line
 met:List (Int × Int)
def optS:Option Str -> V
 | some n=>.str n
 | none=>.non
abbrev lineV (L:Line):List V:=L.map optS
def tabM (m:List (Int × Int)):List (Key × V):=m.map fun x=>(Sum.inl x.1, .int x.2)
structure RowOn (ln ma:Addr) (t:RoS) (H:Hp):Prop where
 li:H ln = some (.lst (lineV t.line))
 mt:H ma = some (.dK (tabM t.met))
 few:t.line.length ≤ 1000
 fm:t.met.length ≤ 1000
def rowK (C p dc dl ln ma:Addr):Kd RoS:=⟨C, p, dc, dl, fun t=>[("line", .ref ln), ("met_at", .ref ma)], RowOn ln ma, fun b=>b = p ∨ b = dc ∨ b = dl ∨ b = ln ∨ b = ma⟩
structure RowIs (C:Addr) (κ:Kd RoS) (p dc dl ln ma:Addr):Prop where
 eq:κ = rowK C p dc dl ln ma
 n0:dc ≠ dl
 n1:ln ≠ p ∧ ln ≠ dc ∧ ln ≠ dl
 n2:ma ≠ p ∧ ma ≠ dc ∧ ma ≠ dl
 n3:ln ≠ ma
def rows (C:Addr):Objs RoS C where
 is:=fun κ=>∃ p dc dl ln ma, RowIs C κ p dc dl ln ma
 ok:=by
  rintro κ ⟨p, dc, dl, ln, ma, rfl, n0, n1, n2, n3⟩
  refine ⟨.inl rfl, .inr (.inl rfl), .inr (.inr (.inl rfl)), n0, fun _=>by show 2 ≤ 100; decide, fun t m hm=>?_, fun t H H' h k kt=>?_⟩
  ·show List.lookup m [(("line":Str), V.ref ln), ("met_at", V.ref ma)] = none
   have h1:(m == ("line":Str)) = false:=beq_eq_false_iff_ne.mpr fun z=>hm (by rw [z]; simp [exNames])
   have h2:(m == ("met_at":Str)) = false:=beq_eq_false_iff_ne.mpr fun z=>hm (by rw [z]; simp [exNames])
   rw [List.lookup_cons, h1, List.lookup_cons, h2, List.lookup_nil]
  ·obtain ⟨a, b, c, d⟩:=h
   exact ⟨k _ _ a (.inr (.inr (.inr (.inl rfl)))) n1.1 n1.2.1 n1.2.2, k _ _ b (.inr (.inr (.inr (.inr rfl)))) n2.1 n2.2.1 n2.2.2, c, d⟩
 cls:=by
  rintro κ ⟨p, dc, dl, ln, ma, rfl, _⟩
  rfl
structure RTxt (K:PySem.W.Frag) (C:Addr):Prop extends BTxt K C where
 s1:NoAttr K C "line"
 s2:NoAttr K C "met_at"
section
variable {S:BS} {dc dl:Addr} {x y:V}
theorem f_line:(fldsB S dc dl [("line", x), ("met_at", y)]).lookup ("line":Str) = some x:=rfl
theorem f_metAt:(fldsB S dc dl [("line", x), ("met_at", y)]).lookup ("met_at":Str) = some y:=rfl
end
theorem line_flat (L:Line):(lineV L).all flatV = true:=by
 rw [List.all_eq_true]
 intro x hx
 obtain ⟨n, _, rfl⟩:=List.mem_map.mp hx
 cases n <;> rfl
theorem eqV_opt {x:Option Str} {n:Str}:eqV (optS x) (.str n) = decide (x = some n):=by
 cases x with
 | none=>rw [decide_eq_false (by simp)]; rfl
 | some m=>
   show (m == n) = _
   by_cases e:m = n
   ·rw [e, decide_eq_true rfl]; simp
   ·rw [decide_eq_false (fun z=>e (Option.some.inj z))]; simp [e]
theorem inV_line {L:Line} {n:Str}:inV (.str n) (lineV L) = (spotN L n).isSome:=by
 unfold inV spotN
 rw [List.findIdx?_isSome]
 show (L.map optS).any _ = _
 rw [List.any_map]
 refine congrArg (fun f=>List.any L f) (funext fun x=>?_)
 exact eqV_opt
def spotV (L:Line) (n:Str):V:=match spotN L n with
 | some i=>.int ((i + 1:Nat):Int)
 | none=>.non
section
variable {P:Program} {w:World} {K:PySem.W.Frag} {mg:Str -> Option Value} {base:Heap} {C:Addr}
theorem BookAt.setLine {κ:Kd RoS} {S:BS} {t:RoS} {H:Hp} {p dc dl ln ma:Addr} (B:BookAt κ S t H) (h:RowIs C κ p dc dl ln ma) (L:Line) (few:L.length ≤ 1000):BookAt κ S { t with line:=L } (upd H ln (.lst (lineV L))):=by
 obtain ⟨rfl, n0, n1, n2, n3⟩:=h
 obtain ⟨⟨dx, h1⟩, h2, h3, h4, h5⟩:=B
 obtain ⟨g1, g2, g3, g4⟩:=h4
 refine ⟨⟨dx, ?_⟩, ?_, ?_, ⟨upd_same, ?_, few, g4⟩, al_upd h5 (by intro xs z; cases z)⟩
 ·show upd H ln _ p = _; rw [upd_ne (Ne.symm n1.1)]; exact h1
 ·show upd H ln _ dc = _; rw [upd_ne (Ne.symm n1.2.1)]; exact h2
 ·show upd H ln _ dl = _; rw [upd_ne (Ne.symm n1.2.2)]; exact h3
 ·show upd H ln _ ma = _; rw [upd_ne (Ne.symm n3)]; exact g2
theorem BookAt.setMet {κ:Kd RoS} {S:BS} {t:RoS} {H:Hp} {p dc dl ln ma:Addr} (B:BookAt κ S t H) (h:RowIs C κ p dc dl ln ma) (m:List (Int × Int)) (few:m.length ≤ 1000):BookAt κ S { t with met:=m } (upd H ma (.dK (tabM m))):=by
 obtain ⟨rfl, n0, n1, n2, n3⟩:=h
 obtain ⟨⟨dx, h1⟩, h2, h3, h4, h5⟩:=B
 obtain ⟨g1, g2, g3, g4⟩:=h4
 refine ⟨⟨dx, ?_⟩, ?_, ?_, ⟨?_, upd_same, g3, few⟩, al_upd h5 (by intro xs z; cases z)⟩
 ·show upd H ma _ p = _; rw [upd_ne (Ne.symm n2.1)]; exact h1
 ·show upd H ma _ dc = _; rw [upd_ne (Ne.symm n2.2.1)]; exact h2
 ·show upd H ma _ dl = _; rw [upd_ne (Ne.symm n2.2.2)]; exact h3
 ·show upd H ma _ ln = _; rw [upd_ne n3]; exact g1
def spSpotOf (C:Addr):Sp:=fun vs H Q _=>∃ (κ:Kd RoS) (S:BS) (t:RoS) (n:Str), (rows C).is κ ∧ vs = [.ref κ.p, .str n] ∧ BookAt κ S t H ∧ Q (spotV t.line n) H
theorem scSpotOf:FnScope ["self", "name"] ["self", "name"] (defScope sSpotOf):=⟨rfl, rfl, rfl, by decide +kernel, rfl, by decide +kernel, by decide +kernel⟩
theorem ok_spotOf {f:Addr} (F:FunB K "spot_of" "Row.spot_of" sSpotOf f ["self", "name"]) (T:RTxt K C):FnP P w K mg base 1 f ["self", "name"] (spSpotOf C):=by
 refine F.ok scSpotOf (fun vs H Q E h=>?_) (fun cdv A outer s H vs Q E hr h=>?_)
 ·obtain ⟨κ, S, t, n, _, rfl, _⟩:=h
  rfl
 ·obtain ⟨κ, S, t, n, ⟨p, dc, dl, ln, ma, rfl, n0, n1, n2, n3⟩, rfl, B, k⟩:=h
  obtain ⟨dx, h1⟩:=id B.ob
  obtain ⟨g1, g2, g3, g4⟩:=id B.ex
  refine ⟨_, pss_cons (ps_if (pt_cmpR op_in_seq (pv 1) (pe_fld (pv 0) rfl) rfl) (pss_one (ps_ret (pe_op op_add (pe_bm PySem.F.plainAttrs_list PySem.F.slot_list_index PySem.F.type_list_index mt_index (pe_fld (pv 0) rfl) (pa_cons (pv 1) pa_nil)) pe_int))) pss_nil)
   (pss_one (ps_ret pe_non)), ?_⟩
  refine ⟨_, rfl, _, rfl, p, C, dx, _, _, rfl, h1, T.cl, T.s1, f_line, ln, _, rfl, .inl (SqL.of g1), rfl, line_flat _, _, rfl, ?_⟩
  rw [if_neg Bool.false_ne_true, inV_line]
  unfold spotV at k
  cases e:spotN t.line n with
  | none=>
    rw [e] at k
    exact iteF k
  | some i=>
    rw [e] at k
    obtain ⟨hi, hb⟩:=spotN_some e
    have hil:=has_lt hi
    refine iteT ?_
    refine ⟨_, rfl, p, C, dx, _, _, rfl, h1, T.cl, T.s1, f_line, .inl ⟨rfl, _, SqL.of g1⟩, _, rfl, ln, _, .str n, i, rfl, rfl, g1, rfl, line_flat _, by rw [List.length_map]; exact hil, fun z hz=>?_, fun m z hm hz=>?_, _, _, rfl, rfl, ?_⟩
    ·rw [List.getElem?_map, show t.line[i]? = some (some n) from hi] at hz
     cases hz
     rw [eqV_opt]; exact decide_eq_true rfl
    ·rw [List.getElem?_map] at hz
     cases q:t.line[m]? with
     | none=>rw [q] at hz; cases hz
     | some x=>
       rw [q] at hz
       cases hz
       rw [eqV_opt]
       refine decide_eq_false fun y=>hb m hm ?_
       show t.line[m]? = _
       rw [q, y]
    ·have e2:((i:Int) + 1) = ((i + 1:Nat):Int):=by push_cast; rfl
     show Q (.int ((i:Int) + 1)) H
     rw [e2]
     exact k
def spLeave (C:Addr):Sp:=fun vs H Q _=>∃ (κ:Kd RoS) (S:BS) (t:RoS) (i:Nat), (rows C).is κ ∧ vs = [.ref κ.p, .int ((i + 1:Nat):Int)] ∧ BookAt κ S t H ∧ i < t.line.length ∧ ∀ H', BookAt κ S { t with line:=trim (t.line.set i none) } H' -> Fr κ H H' -> Q .non H'
theorem scLeave:FnScope ["self", "spot"] ["self", "spot"] (defScope sLeave):=⟨rfl, rfl, rfl, by decide +kernel, rfl, by decide +kernel, by decide +kernel⟩
theorem ok_leave {f:Addr} (F:FunB K "leave" "Row.leave" sLeave f ["self", "spot"]) (T:RTxt K C):FnP P w K mg base 1 f ["self", "spot"] (spLeave C):=by
 refine F.ok scLeave (fun vs H Q E h=>?_) (fun cdv A outer s H vs Q E hr h=>?_)
 ·obtain ⟨κ, S, t, i, _, rfl, _⟩:=h
  rfl
 ·obtain ⟨κ, S, t, i, hκ, rfl, B, hi, k⟩:=h
  have O:=(rows C).ok κ hκ
  obtain ⟨p, dc, dl, ln, ma, hI⟩:=id hκ
  obtain ⟨rfl, n0, n1, n2, n3⟩:=id hI
  obtain ⟨dx, h1⟩:=id B.ob
  obtain ⟨g1, g2, g3, g4⟩:=id B.ex
  refine ⟨_, pss_cons (ps_asg pe_non (pg_sub (pe_fld (pv 0) rfl) (pe_op op_sub (pv 1) pe_int) set_list))
   (pss_one (ps_while PassesOwn.never (PW.pt (pw_and (pt_truth (pe_fld (pv 0) rfl) (fun _=>rfl)) (pw_and1 (pt_cmpR op_isN (pe_ix ix_list (pe_fld (pv 0) rfl) (pe_un un_neg pe_int) (fun _ _=>rfl)) pe_non (nomark _)))))
     (pss_one (ps_expr (pe_bm0 PySem.F.plainAttrs_list PySem.F.slot_list_pop PySem.F.type_list_pop mt_pop (pe_fld (pv 0) rfl)))))), ?_⟩
  have e1:((i + 1:Nat):Int) - 1 = (i:Int):=by push_cast; omega
  refine ⟨_, rfl, p, C, dx, _, _, rfl, h1, T.cl, T.s1, f_line, _, rfl, _, _, rfl, rfl, ln, _, _, i, rfl, rfl, g1, ?_, ?_⟩
  ·rw [e1, List.length_map]
   unfold ixN
   rw [if_pos (by omega), if_pos (by omega)]
   rfl
  have es:(lineV t.line).set i .non = lineV (t.line.set i none):=by
   unfold lineV
   rw [List.map_set]
   rfl
  rw [es]
  have B1:BookAt (rowK C p dc dl ln ma) S { t with line:=t.line.set i none } (upd H ln (.lst (lineV (t.line.set i none)))):=B.setLine hI (t.line.set i none) (by rw [List.length_set]; exact g3)
  have F1:Fr (rowK C p dc dl ln ma) H (upd H ln (.lst (lineV (t.line.set i none)))):=Fr.upd O (.inr (.inr (.inr (.inl rfl))))
  generalize upd H ln (.lst (lineV (t.line.set i none))) = H1 at B1 F1 ⊢
  refine ⟨fun q σ H2=>σ = [some (.ref p), some (.int ((i + 1:Nat):Int))] ∧ ∃ L:Line, q = L.length ∧ trim L = trim (t.line.set i none) ∧ BookAt (rowK C p dc dl ln ma) S { t with line:=L } H2 ∧ Fr (rowK C p dc dl ln ma) H H2, ⟨_, rfl, t.line.set i none, rfl, rfl, B1, F1⟩, ?_⟩
  rintro q σ H2 ⟨rfl, L, rfl, hL, B2, F2⟩
  obtain ⟨dx2, b1⟩:=id B2.ob
  obtain ⟨c1, c2, c3, c4⟩:=id B2.ex
  refine ⟨_, rfl, p, C, dx2, _, _, rfl, b1, T.cl, T.s1, f_line, _, .inl ⟨_, SqL.of c1, rfl⟩, ?_⟩
  by_cases hne:L = []
  ·subst hne
   refine iteF ?_
   refine iteF ?_
   refine k H2 ?_ F2
   rw [← hL]
   exact B2
  ·obtain ⟨L0, x, rfl⟩:∃ L0 x, L = L0 ++ [x]:=⟨L.dropLast, L.getLast hne, (List.dropLast_concat_getLast hne).symm⟩
   have hem:(!(lineV (L0 ++ [x])).isEmpty) = true:=by simp
   rw [hem]
   refine iteT ?_
   have hat:atI (lineV (L0 ++ [x])) (-1) = some (optS x):=by
    unfold atI ixN
    have hl:(lineV (L0 ++ [x])).length = L0.length + 1:=by rw [List.length_map, List.length_append]; rfl
    rw [hl, if_neg (by decide), if_pos (by omega)]
    show (lineV (L0 ++ [x]))[(-1 + ((L0.length + 1:Nat):Int)).toNat]? = _
    rw [show (-1 + ((L0.length + 1:Nat):Int)).toNat = L0.length by omega]
    unfold lineV
    rw [List.getElem?_map, List.getElem?_append_right (Nat.le_refl _), Nat.sub_self]
    rfl
   refine ⟨_, rfl, p, C, dx2, _, _, rfl, b1, T.cl, T.s1, f_line, _, rfl, ln, _, _, _, rfl, rfl, SqL.of c1, hat, rfl, _, rfl, ?_⟩
   cases x with
   | none=>
     refine iteT ?_
     refine ⟨fun σ' H'=>σ' = [some (.ref p), some (.int ((i + 1:Nat):Int))] ∧ BookAt (rowK C p dc dl ln ma) S { t with line:=L0 } H' ∧ Fr (rowK C p dc dl ln ma) H H', ?_, ?_⟩
     ·rintro σ' H' ⟨rfl, b, f⟩
      exact ⟨L0.length, by simp, rfl, L0, rfl, by rw [← hL, trim_snoc_none], b, f⟩
     ·refine ⟨_, rfl, p, C, dx2, _, _, rfl, b1, T.cl, T.s1, f_line, .inl ⟨rfl, _, SqL.of c1⟩, ln, _, .non, rfl, rfl, c1, by simp [optS], rfl, ?_, ?_⟩
      ·have e3:(lineV (L0 ++ [none])).dropLast = lineV L0:=by unfold lineV; rw [List.map_append]; simp
       rw [e3]
       have c3':L0.length ≤ 1000:=by
        have:(L0 ++ [none]).length ≤ 1000:=c3
        rw [List.length_append] at this
        omega
       exact B2.setLine hI L0 c3'
      ·exact F2.trans (Fr.upd O (.inr (.inr (.inr (.inl rfl)))))
   | some m=>
     refine iteF ?_
     refine k H2 ?_ F2
     rw [← hL, trim_snoc_some]
     exact B2
def fadeR:Int -> Str -> Int -> RoS -> RoS:=fun _ n _ t=>{ t with line:=rmv t.line n }
theorem scRFade:FnScope ["self", "name", "last", "spot"] ["self", "name", "last"] (defScope sRFade):=⟨rfl, rfl, rfl, by decide +kernel, rfl, by decide +kernel, by decide +kernel⟩
theorem ok_rFade {f gs gl:Addr} (F:FunB K "fade" "Row.fade" sRFade f ["self", "name", "last"]) (T:RTxt K C) (Gs:FnP P w K mg base 1 gs ["self", "name"] (spSpotOf C)) (Ms:Meth K C "spot_of" gs) (Gl:FnP P w K mg base 1 gl ["self", "spot"] (spLeave C)) (Ml:Meth K C "leave" gl):FnP P w K mg base 8 f ["self", "name", "last"] (spFade (rows C) fadeR):=by
 refine F.ok scRFade (fun vs H Q E h=>?_) (fun cdv A outer s H vs Q E hr h=>?_)
 ·obtain ⟨κ, S, t, n, l, _, rfl, _⟩:=h
  rfl
 ·obtain ⟨κ, S, t, n, l, hκ, rfl, B, k⟩:=h
  have hC:=(rows C).cls κ hκ
  have O:=(rows C).ok κ hκ
  obtain ⟨dx, h1⟩:=id B.ob
  rw [hC] at h1
  refine ⟨_, pss_cons (ps_set (i:=3) scRFade.nd rfl (Or.inl rfl) (pe_methP (pv 0) T.cl Ms Gs (hr.mono (by decide)) (pa_cons (pv 1) pa_nil)))
   (pss_one (ps_if (pt_cmpR op_notN (pv 3) pe_non (nomark _)) (pss_one (ps_expr (pe_methP (pv 0) T.cl Ml Gl (hr.mono (by decide)) (pa_cons (pv 3) pa_nil)))) pss_nil)), ?_⟩
  refine ⟨_, rfl, κ.p, dx, _, rfl, h1, B.fno O (by decide +kernel) (by decide +kernel), _, rfl, κ, S, t, n, hκ, rfl, B, ?_⟩
  unfold spotV
  cases e:spotN t.line n with
  | none=>
    refine ⟨_, rfl, rfl, _, rfl, ?_⟩
    refine iteF ?_
    refine k H ?_ Fr.refl
    unfold fadeR rmv
    rw [e]
    exact B
  | some i=>
    refine ⟨_, rfl, rfl, _, rfl, ?_⟩
    refine iteT ?_
    refine ⟨_, rfl, κ.p, dx, _, rfl, h1, B.fno O (by decide +kernel) (by decide +kernel), _, rfl, κ, S, t, i, hκ, rfl, B, has_lt (spotN_some e).1, fun H' B' F'=>k H' ?_ F'⟩
    unfold fadeR rmv
    rw [e]
    exact B'
end
end Lk

namespace Lk
open PySem L2
def getM (m:List (Int × Int)) (s:Int):Int:=((m.find? fun x=>decide (x.1 = s)).map (·.2)).getD 0
def putM (m:List (Int × Int)) (s v:Int):List (Int × Int):=if s ∈ m.map (·.1) then m.map (fun x=>if x.1 = s then (x.1, v) else x) else m ++ [(s, v)]
def incM (m:List (Int × Int)) (s:Int):List (Int × Int):=putM m s (getM m s + 1)
theorem valV_tabM {s:Int}:∀ {m:List (Int × Int)}, valV (tabM m) (Sum.inl s:Key) = (m.find? fun x=>decide (x.1 = s)).map fun x=>.int x.2
 | []=>rfl
 | x :: r=>by
   by_cases h:x.1 = s
   ·rw [List.find?_cons, decide_eq_true h]
    exact valV_pos (p:=((Sum.inl x.1, .int x.2):Key × V)) (congrArg Sum.inl h)
   ·rw [List.find?_cons, decide_eq_false h]
    exact (valV_neg (p:=((Sum.inl x.1, .int x.2):Key × V)) (fun z=>h (Sum.inl.inj z))).trans valV_tabM
theorem getM_val {m:List (Int × Int)} {s:Int}:(valV (tabM m) (Sum.inl s:Key)).getD (.int 0) = .int (getM m s):=by
 rw [valV_tabM]
 unfold getM
 cases m.find? fun x=>decide (x.1 = s) <;> rfl
theorem any_tabM {s:Int}:∀ {m:List (Int × Int)}, ((tabM m).any fun kv=>decide (kv.1 = (Sum.inl s:Key))) = true ↔ s ∈ m.map (·.1)
 | []=>by simp [tabM]
 | x :: r=>by
   rw [show tabM (x :: r) = (Sum.inl x.1, .int x.2) :: tabM r from rfl, List.any_cons, Bool.or_eq_true, any_tabM, List.map_cons, List.mem_cons]
   refine or_congr ⟨fun h=>(Sum.inl.inj (of_decide_eq_true h)).symm, fun h=>decide_eq_true (by rw [h])⟩ Iff.rfl
theorem putK_tabM {m:List (Int × Int)} {s v:Int}:putK (tabM m) (Sum.inl s:Key) (.int v) = tabM (putM m s v):=by
 unfold putK putM
 by_cases h:s ∈ m.map (·.1)
 ·rw [if_pos (any_tabM.mpr h), if_pos h]
  unfold tabM
  rw [List.map_map, List.map_map]
  refine List.map_congr_left fun x _=>?_
  show (if (Sum.inl x.1:Key) = Sum.inl s then ((Sum.inl x.1, V.int v):Key × V) else (Sum.inl x.1, V.int x.2)) = (Sum.inl (if x.1 = s then (x.1, v) else x).1, V.int (if x.1 = s then (x.1, v) else x).2)
  by_cases e:x.1 = s
  ·rw [if_pos e, if_pos (congrArg Sum.inl e)]
  ·rw [if_neg e, if_neg fun z=>e (Sum.inl.inj z)]
 ·rw [if_neg (fun z=>h (any_tabM.mp z)), if_neg h]
  unfold tabM
  rw [List.map_append]
  rfl
theorem putM_keys {m:List (Int × Int)} {s v:Int}:(putM m s v).map (·.1) = if s ∈ m.map (·.1) then m.map (·.1) else m.map (·.1) ++ [s]:=by
 unfold putM
 by_cases h:s ∈ m.map (·.1)
 ·rw [if_pos h, if_pos h, List.map_map]
  refine List.map_congr_left fun x _=>?_
  show (if x.1 = s then (x.1, v) else x).1 = x.1
  by_cases e:x.1 = s
  ·rw [if_pos e]
  ·rw [if_neg e]
 ·rw [if_neg h, if_neg h, List.map_append]
  rfl
theorem putM_len {m:List (Int × Int)} {s v:Int}:(putM m s v).length ≤ m.length + 1:=by
 have:=congrArg List.length (putM_keys (m:=m) (s:=s) (v:=v))
 rw [List.length_map] at this
 rw [this]
 by_cases h:s ∈ m.map (·.1)
 ·rw [if_pos h, List.length_map]; omega
 ·rw [if_neg h, List.length_append, List.length_map]; exact Nat.le_refl _
section
variable {P:Program} {w:World} {K:PySem.W.Frag} {mg:Str -> Option Value} {base:Heap} {C:Addr}
def spBringIn (C:Addr):Sp:=fun vs H Q _=>∃ (κ:Kd RoS) (S:BS) (t:RoS) (n:Str), (rows C).is κ ∧ vs = [.ref κ.p, .str n] ∧ BookAt κ S t H ∧ LineIn S t.line ∧ t.line.length < 1000 ∧ ∀ H', BookAt κ S { t with line:=bring S n t.line } H' -> Fr κ H H' -> Q .non H'
theorem scBringIn:FnScope ["self", "name", "coming", "at", "there"] ["self", "name"] (defScope sBringIn):=⟨rfl, rfl, rfl, by decide +kernel, rfl, by decide +kernel, by decide +kernel⟩
def goL (S:BS) (n:Str) (i:Nat) (c:Str) (R:Line):Line:=if i = 0 then bring S n R else carry S c R
theorem ok_bringIn {f gs:Addr} (F:FunB K "bring_in" "Row.bring_in" sBringIn f ["self", "name"]) (T:RTxt K C) (B:Blt mg) (Gs:FnP P w K mg base 1 gs ["self", "name"] (spStrength (rows C))) (Ms:Meth K C "strength" gs):FnP P w K mg base 3 f ["self", "name"] (spBringIn C):=by
 refine F.ok scBringIn (fun vs H Q E h=>?_) (fun cdv A outer s H vs Q E hr h=>?_)
 ·obtain ⟨κ, S, t, n, _, rfl, _⟩:=h
  rfl
 ·obtain ⟨κ, S, t, n, hκ, rfl, B0, lin, few, k⟩:=h
  have O:=(rows C).ok κ hκ
  obtain ⟨p, dc, dl, ln, ma, hI⟩:=id hκ
  obtain ⟨rfl, n0, n1, n2, n3⟩:=id hI
  have hu':_ < cLine:=Nat.lt_of_succ_lt (hu_of hr)
  refine ⟨_, pss_cons (ps_set (i:=2) scBringIn.nd rfl (Or.inl rfl) (pv 1))
   (pss_cons (ps_set (i:=3) scBringIn.nd rfl (Or.inl rfl) pe_int)
   (pss_cons (ps_while PassesOwn.never (PW.pt (pw_and (pt_cmpR op_lt (pv 3) (pe_callB call_len_seq rfl B.len PySem.boot_len (pa_cons (pe_fld (pv 0) rfl) pa_nil)) (nomark _)) (pw_and1 (pt_cmpR op_notN (pe_ix ix_list (pe_fld (pv 0) rfl) (pv 3) (fun _ _=>rfl)) pe_non (nomark _)))))
     (pss_cons (ps_set (i:=4) scBringIn.nd rfl (Or.inl rfl) (pe_ix ix_list (pe_fld (pv 0) rfl) (pv 3) (fun _ _=>rfl)))
     (pss_cons (ps_join (ps_if (PW.pt (pw_or (pt_cmpR op_eq (pv 3) pe_int (nomark _)) (pw_or1 (pt_cmpR (op_ltT hu') (pe_methP (pv 0) T.cl Ms Gs (hr.mono (by decide)) (pa_cons (pv 4) pa_nil)) (pe_methP (pv 0) T.cl Ms Gs (hr.mono (by decide)) (pa_cons (pv 2) pa_nil)) (nomark _)))))
       (pss_cons (ps_asg (pv 2) (pg_sub (pe_fld (pv 0) rfl) (pv 3) set_list)) (pss_one (ps_set (i:=2) scBringIn.nd rfl (Or.inl rfl) (pv 4)))) pss_nil))
     (pss_one (ps_aug (i:=3) scBringIn.nd rfl (Or.inl rfl) pe_int ip_add)))))
   (pss_one (ps_if (pt_cmpR op_lt (pv 3) (pe_callB call_len_seq rfl B.len PySem.boot_len (pa_cons (pe_fld (pv 0) rfl) pa_nil)) (nomark _)) (pss_one (ps_asg (pv 2) (pg_sub (pe_fld (pv 0) rfl) (pv 3) set_list)))
     (pss_one (ps_expr (pe_bm PySem.F.plainAttrs_list PySem.F.slot_list_append PySem.F.type_list_append mt_append (pe_fld (pv 0) rfl) (pa_cons (pv 2) pa_nil)))))))), ?_⟩
  refine ⟨_, rfl, ?_⟩
  refine ⟨fun q σ H'=>∃ (D R:Line) (c:Str) (z:Option V), q = R.length ∧ σ = [some (.ref p), some (.str n), some (.str c), some (.int (D.length:Int)), z] ∧ BookAt (rowK C p dc dl ln ma) S { t with line:=D ++ R } H' ∧ Fr (rowK C p dc dl ln ma) H H' ∧ (D.length = 0 -> c = n) ∧ (D.length ≠ 0 -> ∃ e, findE S.ents c = some e) ∧ D ++ goL S n D.length c R = bring S n t.line ∧ LineIn S R ∧ D.length + R.length = t.line.length, ⟨_, [], t.line, n, none, rfl, rfl, B0, Fr.refl, fun _=>rfl, fun z=>absurd rfl z, rfl, lin, by simp⟩, ?_⟩
  rintro q σ H1 ⟨D, R, c, z, rfl, rfl, B1, F1, hc0, hc1, hgo, hlR, hlen⟩
  obtain ⟨dx, h1⟩:=id B1.ob
  obtain ⟨g1, g2, g3, g4⟩:=id B1.ex
  have hlv:(lineV (D ++ R)).length = D.length + R.length:=by rw [List.length_map, List.length_append]
  refine ⟨_, rfl, _, rfl, p, C, dx, _, _, rfl, h1, T.cl, T.s1, f_line, ln, _, rfl, .inl (SqL.of g1), _, _, rfl, rfl, _, rfl, ?_⟩
  rw [hlv]
  have setOk:∀ (H2:Hp) (x:Option Str) (R':Line) (c2:Str), R = x :: R' -> BookAt (rowK C p dc dl ln ma) S { t with line:=D ++ R } H2 -> ∃ j, ixN (lineV (D ++ R)).length (D.length:Int) = some j ∧ (lineV (D ++ R)).set j (.str c2) = lineV (D ++ some c2 :: R'):=fun H2 x R' c2 e _=>by
   subst e
   refine ⟨D.length, ?_, ?_⟩
   ·unfold ixN
    rw [hlv, if_pos (by omega), if_pos (by simp only [List.length_cons]; omega)]
    rfl
   ·unfold lineV
    rw [List.map_append, List.set_append_right _ _ (by rw [List.length_map]; exact Nat.le_refl _), List.length_map, Nat.sub_self, List.map_append]
    rfl
  match R, hgo, hlR, hlen, B1, g1, hlv, h1, g3, setOk with
  | [], hgo, hlR, hlen, B1, g1, hlv, h1, g3, setOk=>
    rw [decide_eq_false (show ¬ (D.length:Int) < ((D.length + ([]:Line).length:Nat):Int) by simp)]
    refine iteF ?_
    refine iteF ?_
    refine ⟨_, rfl, _, rfl, p, C, dx, _, _, rfl, h1, T.cl, T.s1, f_line, ln, _, rfl, .inl (SqL.of g1), _, _, rfl, rfl, _, rfl, ?_⟩
    rw [hlv, decide_eq_false (show ¬ (D.length:Int) < ((D.length + ([]:Line).length:Nat):Int) by simp)]
    refine iteF ?_
    refine ⟨_, rfl, p, C, dx, _, _, rfl, h1, T.cl, T.s1, f_line, .inl ⟨rfl, _, SqL.of g1⟩, _, rfl, ln, _, _, rfl, rfl, g1, Nat.lt_of_le_of_lt (show (lineV (D ++ [])).length ≤ 1000 by rw [List.length_map]; exact g3) (by decide), ?_⟩
    have e1:lineV (D ++ []) ++ [V.str c] = lineV (bring S n t.line):=by
     rw [← hgo]
     unfold goL lineV
     rw [List.append_nil, List.map_append]
     by_cases e:D.length = 0
     ·rw [if_pos e, hc0 e]; rfl
     ·rw [if_neg e]; rfl
    rw [e1]
    have hl2:(bring S n t.line).length ≤ 1000:=by
     have:=congrArg List.length e1
     rw [List.length_append, List.length_map, List.length_map, List.length_append] at this
     have h0:([V.str c]:List V).length = 1:=rfl
     have h9:([]:Line).length = 0:=rfl
     omega
    exact k _ (B1.setLine hI (bring S n t.line) hl2) (F1.trans (Fr.upd O (.inr (.inr (.inr (.inl rfl))))))
  | none :: R', hgo, hlR, hlen, B1, g1, hlv, h1, g3, setOk=>
    have hlt:(D.length:Int) < ((D.length + (none :: R':Line).length:Nat):Int):=by simp only [List.length_cons]; omega
    have hat:atI (lineV (D ++ none :: R')) (D.length:Int) = some .non:=atI_nat (by unfold lineV; rw [List.getElem?_map, List.getElem?_append_right (Nat.le_refl _), Nat.sub_self]; rfl)
    rw [decide_eq_true hlt]
    refine iteT ?_
    refine ⟨_, rfl, p, C, dx, _, _, rfl, h1, T.cl, T.s1, f_line, _, rfl, ln, _, _, _, rfl, rfl, SqL.of g1, hat, rfl, _, rfl, ?_⟩
    refine iteF ?_
    refine ⟨_, rfl, _, rfl, p, C, dx, _, _, rfl, h1, T.cl, T.s1, f_line, ln, _, rfl, .inl (SqL.of g1), _, _, rfl, rfl, _, rfl, ?_⟩
    rw [hlv, decide_eq_true hlt]
    refine iteT ?_
    obtain ⟨j, ej, es⟩:=setOk H1 none R' c rfl B1
    refine ⟨_, rfl, _, rfl, p, C, dx, _, _, rfl, h1, T.cl, T.s1, f_line, _, rfl, ln, _, _, j, rfl, rfl, g1, ej, ?_⟩
    rw [es]
    have e1:D ++ some c :: R' = bring S n t.line:=by
     rw [← hgo]
     unfold goL
     by_cases e:D.length = 0
     ·rw [if_pos e, hc0 e]; rfl
     ·rw [if_neg e]; rfl
    rw [e1]
    have hl2:(bring S n t.line).length ≤ 1000:=by
     rw [← e1, List.length_append]
     have:(D ++ none :: R').length ≤ 1000:=g3
     rw [List.length_append] at this
     exact this
    exact k _ (B1.setLine hI (bring S n t.line) hl2) (F1.trans (Fr.upd O (.inr (.inr (.inr (.inl rfl))))))
  | some th :: R', hgo, hlR, hlen, B1, g1, hlv, h1, g3, setOk=>
    have hlt:(D.length:Int) < ((D.length + (some th :: R':Line).length:Nat):Int):=by simp only [List.length_cons]; omega
    have hat:atI (lineV (D ++ some th :: R')) (D.length:Int) = some (.str th):=atI_nat (by unfold lineV; rw [List.getElem?_map, List.getElem?_append_right (Nat.le_refl _), Nat.sub_self]; rfl)
    have lR':LineIn S R':=fun i m z=>hlR (i + 1) m (has_succ.mpr z)
    obtain ⟨et, het⟩:=hlR 0 th (has_zero.mpr rfl)
    have entn:et.1 = th:=(findE_some het).1
    rw [decide_eq_true hlt]
    refine iteT ?_
    refine ⟨_, rfl, p, C, dx, _, _, rfl, h1, T.cl, T.s1, f_line, _, rfl, ln, _, _, _, rfl, rfl, SqL.of g1, hat, rfl, _, rfl, ?_⟩
    refine iteT ?_
    refine ⟨fun σ' H'=>∃ (D2:Line) (c2:Str), D2.length = D.length + 1 ∧ σ' = [some (.ref p), some (.str n), some (.str c2), some (.int (D2.length:Int)), some (.str th)] ∧ BookAt (rowK C p dc dl ln ma) S { t with line:=D2 ++ R' } H' ∧ Fr (rowK C p dc dl ln ma) H H' ∧ (∃ e, findE S.ents c2 = some e) ∧ D2 ++ carry S c2 R' = bring S n t.line, ?_, ?_⟩
    ·rintro σ' H' ⟨D2, c2, hD2, rfl, b2, f2, ce2, e2⟩
     refine ⟨R'.length, by simp, D2, R', c2, _, rfl, rfl, b2, f2, fun z=>by omega, fun _=>ce2, ?_, lR', by simp only [List.length_cons] at hlen; omega⟩
     unfold goL
     rw [if_neg (by omega)]
     exact e2
    refine ⟨_, rfl, p, C, dx, _, _, rfl, h1, T.cl, T.s1, f_line, _, rfl, ln, _, _, _, rfl, rfl, SqL.of g1, hat, ?_⟩
    refine ⟨fun σ' H'=>∃ (D2:Line) (c2:Str), D2.length = D.length + 1 ∧ σ' = [some (.ref p), some (.str n), some (.str c2), some (.int (D.length:Int)), some (.str th)] ∧ BookAt (rowK C p dc dl ln ma) S { t with line:=D2 ++ R' } H' ∧ Fr (rowK C p dc dl ln ma) H H' ∧ (∃ e, findE S.ents c2 = some e) ∧ D2 ++ carry S c2 R' = bring S n t.line, ?_, ?_⟩
    ·-- put: the one that stands there is carried on
     have put:∀ H2, BookAt (rowK C p dc dl ln ma) S { t with line:=D ++ some th :: R' } H2 -> Fr (rowK C p dc dl ln ma) H H2 -> D ++ some c :: carry S th R' = bring S n t.line -> ∃ j, ixN (lineV (D ++ some th :: R')).length (D.length:Int) = some j ∧ BookAt (rowK C p dc dl ln ma) S { t with line:=(D ++ [some c]) ++ R' } (upd H2 ln (.lst ((lineV (D ++ some th :: R')).set j (.str c)))) ∧ (D ++ [some c]) ++ carry S th R' = bring S n t.line:=fun H2 b2 f2 e2=>by
      obtain ⟨j, ej, es⟩:=setOk H2 (some th) R' c rfl b2
      refine ⟨j, ej, ?_, by rw [← e2, List.append_assoc]; rfl⟩
      rw [es, show D ++ some c :: R' = (D ++ [some c]) ++ R' by rw [List.append_assoc]; rfl]
      refine b2.setLine hI ((D ++ [some c]) ++ R') ?_
      have:(D ++ some th :: R').length ≤ 1000:=g3
      rw [List.length_append] at this ⊢
      rw [List.length_append]
      simp only [List.length_cons, List.length_nil] at this ⊢
      omega
     by_cases e0:D.length = 0
     ·refine ⟨_, rfl, rfl, _, rfl, ?_⟩
      rw [decide_eq_true (show V.int (D.length:Int) = V.int 0 by rw [e0]; rfl)]
      refine iteT ?_
      refine iteT ?_
      have eb:D ++ some c :: carry S th R' = bring S n t.line:=by
       rw [← hgo]
       unfold goL
       rw [if_pos e0, hc0 e0]
       rfl
      obtain ⟨j, ej, b3, e3⟩:=put H1 B1 F1 eb
      refine ⟨_, rfl, _, rfl, p, C, dx, _, _, rfl, h1, T.cl, T.s1, f_line, _, rfl, ln, _, _, j, rfl, rfl, g1, ej, ?_⟩
      exact ⟨_, rfl, D ++ [some c], th, by rw [List.length_append]; rfl, rfl, b3, F1.trans (Fr.upd O (.inr (.inr (.inr (.inl rfl))))), ⟨et, het⟩, e3⟩
     ·obtain ⟨ec, hec⟩:=hc1 e0
      have ecn:ec.1 = c:=(findE_some hec).1
      refine ⟨_, rfl, rfl, _, rfl, ?_⟩
      rw [decide_eq_false (show ¬ V.int (D.length:Int) = V.int 0 from fun z=>e0 (by have:=V.int.inj z; omega))]
      refine iteF ?_
      refine ⟨_, rfl, p, dx, _, rfl, h1, B1.fno O (by decide +kernel) (by decide +kernel), _, rfl, _, S, _, et, hκ, by rw [entn]; rfl, B1.r, by rw [entn]; exact het, fun q1 hq1=>?_⟩
      have Sq1:Same H1 (upd H1 q1 (.tup [.int et.2.1, .int et.2.2])):=Same.upd hq1
      have hq1':(upd H1 q1 (.tup [.int et.2.1, .int et.2.2])) q1 = some (.tup ([et.2.1, et.2.2].map V.int)):=upd_same
      have B2:=B1.same O Sq1
      generalize upd H1 q1 (.tup [.int et.2.1, .int et.2.2]) = H2 at Sq1 hq1' B2 ⊢
      obtain ⟨dx2, b1⟩:=id B2.ob
      refine ⟨_, rfl, p, dx2, _, rfl, b1, B2.fno O (by decide +kernel) (by decide +kernel), _, rfl, _, S, _, ec, hκ, by rw [ecn]; rfl, B2.r, by rw [ecn]; exact hec, fun q2 hq2=>?_⟩
      have Sq2:Same H2 (upd H2 q2 (.tup [.int ec.2.1, .int ec.2.2])):=Same.upd hq2
      have hq2':(upd H2 q2 (.tup [.int ec.2.1, .int ec.2.2])) q2 = some (.tup ([ec.2.1, ec.2.2].map V.int)):=upd_same
      have B3:=B2.same O Sq2
      generalize upd H2 q2 (.tup [.int ec.2.1, .int ec.2.2]) = H3 at Sq2 hq2' B3 ⊢
      have F3:=F1.trans (Fr.of_same (Sq1.trans Sq2))
      have kt:keyOf S th = [et.2.1, et.2.2]:=by unfold keyOf; rw [het]
      have kc:keyOf S c = [ec.2.1, ec.2.2]:=by unfold keyOf; rw [hec]
      refine ⟨q1, q2, [et.2.1, et.2.2], [ec.2.1, ec.2.2], rfl, rfl, SqT.of (Sq2 _ _ hq1'), SqT.of hq2', _, rfl, ?_⟩
      rw [← kt, ← kc]
      have hgo':D ++ carry S c (some th :: R') = bring S n t.line:=by
       rw [← hgo]; unfold goL; rw [if_neg e0]
      unfold carry at hgo'
      by_cases e:HT.lexLt (keyOf S th) (keyOf S c) = true
      ·rw [if_pos e] at hgo'
       rw [e]
       refine iteT ?_
       obtain ⟨j, ej, b3, e3⟩:=put H3 B3 F3 hgo'
       obtain ⟨dx3, c1⟩:=id B3.ob
       refine ⟨_, rfl, _, rfl, p, C, dx3, _, _, rfl, c1, T.cl, T.s1, f_line, _, rfl, ln, _, _, j, rfl, rfl, B3.ex.li, ej, ?_⟩
       exact ⟨_, rfl, D ++ [some c], th, by rw [List.length_append]; rfl, rfl, b3, F3.trans (Fr.upd O (.inr (.inr (.inr (.inl rfl))))), ⟨et, het⟩, e3⟩
      ·have e':HT.lexLt (keyOf S th) (keyOf S c) = false:=by simpa using e
       rw [if_neg e] at hgo'
       rw [e']
       refine iteF ?_
       exact ⟨D ++ [some th], c, by rw [List.length_append]; rfl, rfl, by rw [show (D ++ [some th]) ++ R' = D ++ some th :: R' by rw [List.append_assoc]; rfl]; exact B3, F3, ⟨ec, hec⟩, by rw [← hgo', List.append_assoc]; rfl⟩
    ·rintro σ' H' ⟨D2, c2, hD2, rfl, b2, f2, ce2, e2⟩
     refine ⟨_, rfl, _, _, rfl, rfl, D2, c2, hD2, ?_, b2, f2, ce2, e2⟩
     rw [hD2]
     push_cast
     rfl
end
end Lk

namespace Lk
open PySem L2
def Tr (L:Line):Prop:=trim L = L
theorem trim_idem:∀ L:Line, trim (trim L) = trim L
 | []=>rfl
 | x :: r=>by
   rw [trim_cons]
   by_cases h:x = none ∧ trim r = []
   ·rw [if_pos h]; rfl
   ·rw [if_neg h, trim_cons, trim_idem r, if_neg h]
theorem tr_rmv {L:Line} {n:Str} (h:Tr L):Tr (rmv L n):=by
 unfold rmv
 cases spotN L n with
 | none=>exact h
 | some j=>exact trim_idem _
theorem tr_tail {x:Option Str} {r:Line} (h:Tr (x :: r)):Tr r:=by
 unfold Tr at h ⊢
 rw [trim_cons] at h
 by_cases c:x = none ∧ trim r = []
 ·rw [if_pos c] at h; cases h
 ·rw [if_neg c] at h; exact (List.cons.inj h).2
theorem tr_some {x:Str} {r:Line} (h:Tr r):Tr (some x :: r):=by
 unfold Tr at h ⊢
 rw [trim_cons, if_neg (fun z=>by cases z.1), h]
theorem tr_carry {S:BS}:∀ {L:Line} {c:Str}, Tr L -> Tr (carry S c L)
 | [], c, _=>tr_some (r:=[]) rfl
 | none :: r, c, h=>tr_some (tr_tail h)
 | some t :: r, c, h=>by
   unfold carry
   by_cases e:HT.lexLt (keyOf S t) (keyOf S c) = true
   ·rw [if_pos e]; exact tr_some (tr_carry (tr_tail h))
   ·rw [if_neg e]; exact tr_some (tr_carry (tr_tail h))
theorem tr_bring {S:BS} {n:Str}:∀ {L:Line}, Tr L -> Tr (bring S n L)
 | [], _=>tr_some (r:=[]) rfl
 | none :: r, h=>tr_some (tr_tail h)
 | some t :: r, h=>tr_some (tr_carry (tr_tail h))
structure PassedL (S:BS) (steps:Int) (t t':RoS):Prop where
 hs:∀ i m, Has t'.line i m ↔ Has t.line i m ∧ staysB S steps m = true
 mt:t'.met = t.met
 ln:t'.line.length ≤ t.line.length
 tr:Tr t.line -> Tr t'.line
theorem foldR_tr (d:Int):∀ (qs:List (Int × Str)) (t:RoS), Tr t.line -> Tr (foldF fadeR d qs t).line
 | [], _, h=>h
 | q :: r, t, h=>foldR_tr d r (fadeR d q.2 q.1 t) (tr_rmv h)
theorem foldR_line (d:Int):∀ (qs:List (Int × Str)) (t:RoS), ND t.line -> (∀ i m, Has (foldF fadeR d qs t).line i m ↔ Has t.line i m ∧ m ∉ qs.map (·.2)) ∧ (foldF fadeR d qs t).met = t.met ∧ (foldF fadeR d qs t).line.length ≤ t.line.length
 | [], t, _=>⟨fun i m=>⟨fun z=>⟨z, by simp⟩, fun z=>z.1⟩, rfl, Nat.le_refl _⟩
 | q :: r, t, nd=>by
   have h0:∀ i m, Has (rmv t.line q.2) i m ↔ Has t.line i m ∧ m ≠ q.2:=fun i m=>has_rmv nd
   obtain ⟨h1, h2, h3⟩:=foldR_line d r (fadeR d q.2 q.1 t) (nd_of_has nd fun i m z=>((h0 i m).mp z).1)
   refine ⟨fun i m=>?_, h2, Nat.le_trans h3 (rmv_len _ _)⟩
   show Has (foldF fadeR d r (fadeR d q.2 q.1 t)).line i m ↔ _
   rw [h1]
   show Has (rmv t.line q.2) i m ∧ _ ↔ _
   rw [h0, List.map_cons, List.mem_cons]
   exact ⟨fun z=>⟨z.1.1, fun y=>y.elim z.1.2 z.2⟩, fun z=>⟨⟨z.1, fun y=>z.2 (.inl y)⟩, fun y=>z.2 (.inr y)⟩⟩
theorem passedL_of {S:BS} {steps:Int} {t t':RoS} (nd:ND t.line) (h:PassT fadeR S steps t t'):PassedL S steps t t':=by
 unfold PassT at h
 by_cases hp:0 < timesOf S steps
 ·rw [if_pos hp] at h
  obtain ⟨qs, ⟨pm, _⟩, rfl⟩:=h
  obtain ⟨h1, h2, h3⟩:=foldR_line S.deeds qs t nd
  refine ⟨fun i m=>?_, h2, h3, foldR_tr _ qs t⟩
  rw [h1]
  unfold staysB
  rw [if_pos hp, decide_eq_true_eq]
  have hm:(m ∈ qs.map (·.2)) ↔ m ∈ (goneE S.ents S.part (timesOf S steps)).map (·.1):=by
   rw [(pm.map (·.2)).mem_iff, List.map_map]
   exact Iff.rfl
  rw [hm]
 ·rw [if_neg hp] at h
  subst h
  refine ⟨fun i m=>?_, rfl, Nat.le_refl _, id⟩
  unfold staysB
  rw [if_neg hp]
  exact ⟨fun z=>⟨z, rfl⟩, fun z=>z.1⟩
theorem PassedL.nd {S:BS} {steps:Int} {t t':RoS} (p:PassedL S steps t t') (nd:ND t.line):ND t'.line:=nd_of_has nd fun i m z=>((p.hs i m).mp z).1
theorem LineIn.passed {S:BS} {steps:Int} {t t':RoS} (h:LineIn S t.line) (nd:(namesOf S.ents).Nodup) (p:PassedL S steps t t'):LineIn (passS S steps) t'.line:=fun i m z=>by
 obtain ⟨z1, z2⟩:=(p.hs i m).mp z
 obtain ⟨e, he⟩:=h i m z1
 exact findE_pass nd he z2
def askR (S1:BS) (n:Str) (t1:RoS):RoS:=⟨bring S1 n (rmv t1.line n), match spotN t1.line n with
 | some i=>incM t1.met ((i + 1:Nat):Int)
 | none=>t1.met⟩
section
variable {P:Program} {w:World} {K:PySem.W.Frag} {mg:Str -> Option Value} {base:Heap} {C:Addr}
def spRAsk (C:Addr):Sp:=fun vs H Q _=>∃ (κ:Kd RoS) (S:BS) (t:RoS) (n:Str) (w:Int), (rows C).is κ ∧ vs = [.ref κ.p, .str n, .int w] ∧ BookAt κ S t H ∧ Fit S ∧ Fit (passS (deedS S) 1) ∧ GoodName n ∧ 1 ≤ w ∧ w ≤ 10 ^ 30 ∧ ND t.line ∧ LineIn S t.line ∧ t.line.length < 1000 ∧ t.met.length < 1000 ∧
 ∀ t1 H', PassedL (deedS S) 1 t t1 -> BookAt κ (askS S n w) (askR (passS (deedS S) 1) n t1) H' -> Fr κ H H' -> Q (spotV t1.line n) H'
theorem scRAsk:FnScope ["self", "name", "weight", "spot"] ["self", "name", "weight"] (defScope sRAsk):=⟨rfl, rfl, rfl, by decide +kernel, rfl, by decide +kernel, by decide +kernel⟩
theorem ok_rAsk {f gb gg gs gl gi:Addr} {fd:FuncData} {ds:List Value} (F:FunD K "ask" "Row.ask" sRAsk f fd ds) (T:RTxt K C) (Gb:FnP P w K mg base 16 gb ["self", "name", "weight"] (spBeginAsk (rows C) fadeR)) (Mb:Meth K C "begin_ask" gb)
  (Gg:FnP P w K mg base 1 gg ["self", "name", "weight"] (spGrow (rows C))) (Mg:Meth K C "grow" gg) (Gs:FnP P w K mg base 1 gs ["self", "name"] (spSpotOf C)) (Ms:Meth K C "spot_of" gs) (Gl:FnP P w K mg base 1 gl ["self", "spot"] (spLeave C)) (Ml:Meth K C "leave" gl)
  (Gi:FnP P w K mg base 3 gi ["self", "name"] (spBringIn C)) (Mi:Meth K C "bring_in" gi):FnOk P w K mg base CX0 18 f fd ["self", "name", "weight"] (spRAsk C):=by
 refine F.ok scRAsk (fun vs H Q E h=>?_) (fun cdv A outer s H vs Q E hr h=>?_)
 ·obtain ⟨κ, S, t, n, w, _, rfl, _⟩:=h
  rfl
 ·obtain ⟨κ, S, t, n, w, hκ, rfl, B0, fit, fit1, gn1, w1, w2, nd, lin, fl, fm, k⟩:=h
  have hC:=(rows C).cls κ hκ
  have O:=(rows C).ok κ hκ
  have hu:=hu_of hr
  obtain ⟨dx, h1⟩:=B0.ob
  rw [hC] at h1
  refine ⟨_, pss_cons (ps_expr (pe_methP (pv 0) T.cl Mb Gb (hr.mono (by decide)) (pa_cons (pv 1) (pa_cons (pv 2) pa_nil))))
   (pss_cons (ps_set (i:=3) scRAsk.nd rfl (Or.inl rfl) (pe_methP (pv 0) T.cl Ms Gs (hr.mono (by decide)) (pa_cons (pv 1) pa_nil)))
   (pss_cons (ps_join (ps_if (pt_cmpR op_notN (pv 3) pe_non (nomark _)) (pss_cons (ps_dput hu (pe_fld (pv 0) rfl) (pv 3) (pe_op op_add (pe_dget2 hu (pe_fld (pv 0) rfl) (pv 3) pe_int ⟨rfl, rfl, rfl, rfl⟩) pe_int) rfl)
      (pss_one (ps_expr (pe_methP (pv 0) T.cl Ml Gl (hr.mono (by decide)) (pa_cons (pv 3) pa_nil))))) pss_nil))
   (pss_cons (ps_expr (pe_methP (pv 0) T.cl Mi Gi (hr.mono (by decide)) (pa_cons (pv 1) pa_nil)))
   (pss_cons (ps_expr (pe_methP (pv 0) T.cl Mg Gg (hr.mono (by decide)) (pa_cons (pv 1) (pa_cons (pv 2) pa_nil))))
   (pss_one (ps_ret (pv 3))))))), ?_⟩
  refine ⟨_, rfl, κ.p, dx, _, rfl, h1, B0.fno O (by decide +kernel) (by decide +kernel), _, rfl, _, rfl, ?_⟩
  refine ⟨κ, S, t, n, w, hκ, rfl, B0, fit, gn1, w1, w2, fun t1 H1 pt b1 f1=>?_⟩
  have pd:=passedL_of nd pt
  have lin1:LineIn (passS (deedS S) 1) t1.line:=LineIn.passed (S:=deedS S) lin fit.nd pd
  have nd1:=pd.nd nd
  have fl1:t1.line.length < 1000:=Nat.lt_of_le_of_lt pd.ln fl
  have fm1:t1.met.length < 1000:=by rw [pd.mt]; exact fm
  have get:∀ {S:BS} {t:RoS} {H:Hp}, BookAt κ S t H -> ∃ dx, H κ.p = some (.ins C dx (fldsB S κ.dc κ.dl (κ.ex t))):=fun {S t H} B=>by
   obtain ⟨dx, h⟩:=id B.ob
   rw [hC] at h
   exact ⟨dx, h⟩
  obtain ⟨dx1, g1⟩:=get b1
  refine ⟨_, rfl, κ.p, dx1, _, rfl, g1, b1.fno O (by decide +kernel) (by decide +kernel), _, rfl, κ, _, t1, n, hκ, rfl, b1, ?_⟩
  generalize hm2:(askR (passS (deedS S) 1) n t1).met = m2
  refine ⟨fun σ' H'=>σ' = [some (.ref κ.p), some (.str n), some (.int w), some (spotV t1.line n)] ∧ BookAt κ (passS (deedS S) 1) ⟨rmv t1.line n, m2⟩ H' ∧ Fr κ H H', ?_, ?_⟩
  ·unfold askR at hm2
   dsimp only at hm2
   unfold rmv spotV
   cases e:spotN t1.line n with
   | none=>
     rw [e] at hm2
     refine ⟨_, rfl, rfl, _, rfl, ?_⟩
     refine iteF ⟨rfl, ?_, f1⟩
     rw [← hm2]
     exact b1
   | some i=>
     rw [e] at hm2
     have hm2:incM t1.met ((i + 1:Nat):Int) = m2:=hm2
     refine ⟨_, rfl, rfl, _, rfl, ?_⟩
     refine iteT ?_
     obtain ⟨p, dc, dl, ln, ma, hI⟩:=id hκ
     obtain ⟨rfl, n0, n1, n2, n3⟩:=id hI
     refine ⟨_, rfl, p, C, dx1, _, _, rfl, g1, T.cl, T.s2, f_metAt, ma, rfl, .inl ⟨_, .inl b1.ex.mt⟩, _, rfl, _, DGet.k (k:=Sum.inl ((i + 1:Nat):Int)) b1.ex.mt, _, _, getM_val, rfl, ?_⟩
     refine ⟨_, rfl, p, C, dx1, _, _, rfl, g1, T.cl, T.s2, f_metAt, _, rfl, ma, _, rfl, DPut.k (k:=Sum.inl ((i + 1:Nat):Int)) b1.ex.mt (Nat.lt_of_le_of_lt (show (tabM t1.met).length ≤ 1000 by unfold tabM; rw [List.length_map]; omega) (by decide)), ?_⟩
     have em:putK (tabM t1.met) (Sum.inl ((i + 1:Nat):Int):Key) (.int (getM t1.met ((i + 1:Nat):Int) + 1)) = tabM m2:=by rw [putK_tabM, ← hm2]; rfl
     have hml:m2.length ≤ 1000:=by rw [← hm2]; exact Nat.le_trans putM_len (by omega)
     have b2:BookAt (rowK C p dc dl ln ma) (passS (deedS S) 1) ⟨t1.line, m2⟩ (upd H1 ma (.dK (putK (tabM t1.met) (Sum.inl ((i + 1:Nat):Int):Key) (.int (getM t1.met ((i + 1:Nat):Int) + 1))))):=by
      rw [em]
      exact b1.setMet hI m2 hml
     have f2:Fr (rowK C p dc dl ln ma) H (upd H1 ma (.dK (putK (tabM t1.met) (Sum.inl ((i + 1:Nat):Int):Key) (.int (getM t1.met ((i + 1:Nat):Int) + 1))))):=f1.trans (Fr.upd O (.inr (.inr (.inr (.inr rfl)))))
     generalize upd H1 ma (.dK (putK (tabM t1.met) (Sum.inl ((i + 1:Nat):Int):Key) (.int (getM t1.met ((i + 1:Nat):Int) + 1)))) = H2 at b2 f2 ⊢
     obtain ⟨dx2, g2⟩:=get b2
     refine ⟨_, rfl, p, dx2, _, rfl, g2, b2.fno O (by decide +kernel) (by decide +kernel), _, rfl, _, _, ⟨t1.line, m2⟩, i, hκ, rfl, b2, has_lt (spotN_some e).1, fun H3 b3 f3=>⟨rfl, b3, f2.trans f3⟩⟩
  ·rintro σ' H2 ⟨rfl, b2, f2⟩
   obtain ⟨dx2, g2⟩:=get b2
   refine ⟨_, rfl, κ.p, dx2, _, rfl, g2, b2.fno O (by decide +kernel) (by decide +kernel), _, rfl, κ, _, ⟨rmv t1.line n, m2⟩, n, hκ, rfl, b2, fun i m z=>lin1 i m ((has_rmv nd1).mp z).1, Nat.lt_of_le_of_lt (rmv_len _ _) fl1, fun H3 b3 f3=>?_⟩
   obtain ⟨dx3, g3⟩:=get b3
   refine ⟨_, rfl, κ.p, dx3, _, rfl, g3, b3.fno O (by decide +kernel) (by decide +kernel), _, rfl, _, rfl, κ, _, _, n, w, hκ, rfl, b3, fit1.nd, fit1.few, fun H4 b4 f4=>⟨_, rfl, ?_⟩⟩
   refine k t1 H4 pd ?_ ((f2.trans f3).trans f4)
   rw [← hm2] at b4
   exact b4
def spRDrop (C:Addr):Sp:=fun vs H Q _=>∃ (κ:Kd RoS) (S:BS) (t:RoS) (n:Str), (rows C).is κ ∧ vs = [.ref κ.p, .str n] ∧ BookAt κ S t H ∧ GoodName n ∧ ∀ H', BookAt κ (deedS S) { t with line:=rmv t.line n } H' -> Fr κ H H' -> Q (.bl (spotN t.line n).isSome) H'
theorem scRDrop:FnScope ["self", "name", "spot"] ["self", "name"] (defScope sRDrop):=⟨rfl, rfl, rfl, by decide +kernel, rfl, by decide +kernel, by decide +kernel⟩
theorem ok_rDrop {f gb gs gl:Addr} (F:FunB K "drop" "Row.drop" sRDrop f ["self", "name"]) (T:RTxt K C) (Gb:FnP P w K mg base 4 gb ["self", "name"] (spBeginDrop (rows C))) (Mb:Meth K C "begin_drop" gb)
  (Gs:FnP P w K mg base 1 gs ["self", "name"] (spSpotOf C)) (Ms:Meth K C "spot_of" gs) (Gl:FnP P w K mg base 1 gl ["self", "spot"] (spLeave C)) (Ml:Meth K C "leave" gl):FnP P w K mg base 6 f ["self", "name"] (spRDrop C):=by
 refine F.ok scRDrop (fun vs H Q E h=>?_) (fun cdv A outer s H vs Q E hr h=>?_)
 ·obtain ⟨κ, S, t, n, _, rfl, _⟩:=h
  rfl
 ·obtain ⟨κ, S, t, n, hκ, rfl, B0, gn1, k⟩:=h
  have hC:=(rows C).cls κ hκ
  have O:=(rows C).ok κ hκ
  obtain ⟨dx, h1⟩:=B0.ob
  rw [hC] at h1
  refine ⟨_, pss_cons (ps_expr (pe_methP (pv 0) T.cl Mb Gb (hr.mono (by decide)) (pa_cons (pv 1) pa_nil)))
   (pss_cons (ps_set (i:=2) scRDrop.nd rfl (Or.inl rfl) (pe_methP (pv 0) T.cl Ms Gs (hr.mono (by decide)) (pa_cons (pv 1) pa_nil)))
   (pss_cons (ps_if (pt_cmpR op_isN (pv 2) pe_non (nomark _)) (pss_one (ps_ret pe_bl)) pss_nil)
   (pss_cons (ps_expr (pe_methP (pv 0) T.cl Ml Gl (hr.mono (by decide)) (pa_cons (pv 2) pa_nil)))
   (pss_one (ps_ret pe_bl))))), ?_⟩
  refine ⟨_, rfl, κ.p, dx, _, rfl, h1, B0.fno O (by decide +kernel) (by decide +kernel), _, rfl, κ, S, t, n, hκ, rfl, B0, gn1, fun H1 b1 f1=>?_⟩
  obtain ⟨dx1, g1⟩:=b1.ob
  rw [hC] at g1
  refine ⟨_, rfl, κ.p, dx1, _, rfl, g1, b1.fno O (by decide +kernel) (by decide +kernel), _, rfl, κ, _, t, n, hκ, rfl, b1, ?_⟩
  unfold spotV
  unfold rmv at k
  cases e:spotN t.line n with
  | none=>
    rw [e] at k
    refine ⟨_, rfl, rfl, _, rfl, ?_⟩
    refine iteT ?_
    exact k H1 b1 f1
  | some i=>
    rw [e] at k
    refine ⟨_, rfl, rfl, _, rfl, ?_⟩
    refine iteF ?_
    refine ⟨_, rfl, κ.p, dx1, _, rfl, g1, b1.fno O (by decide +kernel) (by decide +kernel), _, rfl, κ, _, t, i, hκ, rfl, b1, has_lt (spotN_some e).1, fun H2 b2 f2=>?_⟩
    exact k H2 b2 (f1.trans f2)
def spRInit (C:Addr):Sp:=fun vs H Q _=>∃ (p dx:Addr) (span part:Int), vs = [.ref p, .int span, .int part] ∧ H p = some (.ins C dx []) ∧ 1 ≤ span ∧ span ≤ 10 ^ 20 ∧ 2 ≤ part ∧ part ≤ 10 ^ 30 ∧
 ∀ κ H', (rows C).is κ -> κ.p = p -> (∀ b, κ.own b -> b = p ∨ H b = none) -> BookAt κ (startS span part) ⟨[], []⟩ H' -> (∀ b o, H b = some o -> b ≠ p -> H' b = some o) -> Q .non H'
theorem scRInit:FnScope ["self", "span", "part"] ["self", "span", "part"] (defScope sRInit):=⟨rfl, rfl, rfl, by decide +kernel, rfl, by decide +kernel, by decide +kernel⟩
theorem ok_rInit {f gi C0:Addr} (F:FunB K "__init__" "Row.__init__" sRInit f ["self", "span", "part"]) (T:RTxt K C)
  (hC0:mg "Book" = some (.ref C0)) (cm:CMeth K C0 "__init__" gi) (Gi:FnP P w K mg base 4 gi ["self", "span", "part"] (spInit C)):FnP P w K mg base 6 f ["self", "span", "part"] (spRInit C):=by
 refine F.ok scRInit (fun vs H Q E h=>?_) (fun cdv A outer s H vs Q E hr h=>?_)
 ·obtain ⟨p, dx, span, part, rfl, _⟩:=h
  rfl
 ·obtain ⟨p, dx, span, part, rfl, hp, g1, g2, g3, g4, k⟩:=h
  refine ⟨_, pss_cons (ps_expr (pe_clsP hC0 cm Gi (hr.mono (by decide)) (pa_cons (pv 0) (pa_cons (pv 1) (pa_cons (pv 2) pa_nil)))))
   (pss_cons (ps_fld (pv 0) (pe_lst pa_nil) rfl) (pss_one (ps_fld (pv 0) pe_dnewK rfl))), ?_⟩
  refine ⟨_, rfl, _, rfl, _, rfl, p, dx, span, part, rfl, hp, g1, g2, g3, g4, fun dc dl H1 hdc hdl n0 h1 hc hl k1=>?_⟩
  have npc:p ≠ dc:=ne_of_none hp hdc
  have npl:p ≠ dl:=ne_of_none hp hdl
  refine ⟨by show 0 ≤ sizeLine; decide, fun ln hln=>?_⟩
  have npn:p ≠ ln:=ne_of_none h1 hln
  have ncn:dc ≠ ln:=ne_of_none hc hln
  have nln:dl ≠ ln:=ne_of_none hl hln
  refine ⟨_, rfl, p, C, dx, _, rfl, (by rw [upd_ne npn]; exact h1), T.cl, T.s1, (by show 6 < 1000; decide), ?_⟩
  intro ma hma
  have npm:p ≠ ma:=ne_of_none upd_same hma
  have ncm:dc ≠ ma:=ne_of_none (o:=.dK []) (by rw [upd_ne npc.symm, upd_ne ncn]; exact hc) hma
  have nlm:dl ≠ ma:=ne_of_none (o:=.dK []) (by rw [upd_ne npl.symm, upd_ne nln]; exact hl) hma
  have nnm:ln ≠ ma:=ne_of_none (o:=.lst []) (by rw [upd_ne npn.symm, upd_same]) hma
  refine ⟨_, rfl, p, C, dx, _, rfl, (by rw [upd_ne npm]; exact upd_same), T.cl, T.s2, (by show 7 < 1000; decide), ?_⟩
  have old:∀ b, H1 b = none -> b ≠ p -> H b = none:=fun b e ne=>by
   cases q:H b with
   | none=>rfl
   | some o=>rw [k1 b o q ne] at e; cases e
  have ln0:H ln = none:=old ln hln npn.symm
  have ma0:H ma = none:=old ma (by rw [upd_ne npm.symm, upd_ne nnm.symm] at hma; exact hma) npm.symm
  have hi:RowIs C (rowK C p dc dl ln ma) p dc dl ln ma:=⟨rfl, n0, ⟨npn.symm, ncn.symm, nln.symm⟩, ⟨npm.symm, ncm.symm, nlm.symm⟩, nnm⟩
  refine k (rowK C p dc dl ln ma) _ ⟨p, dc, dl, ln, ma, hi⟩ rfl ?_ ?_ ?_
  ·rintro b (rfl | rfl | rfl | rfl | rfl)
   ·exact .inl rfl
   ·exact .inr hdc
   ·exact .inr hdl
   ·exact .inr ln0
   ·exact .inr ma0
  ·refine ⟨⟨dx, upd_same⟩, ?_, ?_, ⟨?_, ?_, by show 0 ≤ 1000; decide, by show 0 ≤ 1000; decide⟩, ?_⟩
   ·show upd _ p _ dc = _
    rw [upd_ne npc.symm, upd_ne ncm, upd_ne npc.symm, upd_ne ncn]; exact hc
   ·show upd _ p _ dl = _
    rw [upd_ne npl.symm, upd_ne nlm, upd_ne npl.symm, upd_ne nln]; exact hl
   ·show upd _ p _ ln = _
    rw [upd_ne npn.symm, upd_ne nnm, upd_ne npn.symm, upd_same]; rfl
   ·show upd _ p _ ma = _
    rw [upd_ne npm.symm, upd_same]; rfl
   ·rintro b (rfl | rfl | rfl | rfl | rfl)
    ·exact ⟨_, upd_same, by intro xs z; cases z⟩
    ·exact ⟨.dK [], by rw [upd_ne npc.symm, upd_ne ncm, upd_ne npc.symm, upd_ne ncn]; exact hc, by intro xs z; cases z⟩
    ·exact ⟨.dK [], by rw [upd_ne npl.symm, upd_ne nlm, upd_ne npl.symm, upd_ne nln]; exact hl, by intro xs z; cases z⟩
    ·exact ⟨.lst [], by rw [upd_ne npn.symm, upd_ne nnm, upd_ne npn.symm, upd_same], by intro xs z; cases z⟩
    ·exact ⟨.dK [], by rw [upd_ne npm.symm, upd_same], by intro xs z; cases z⟩
  ·intro b o e hb
   rw [upd_ne hb, upd_ne (ne_of_none e ma0), upd_ne hb, upd_ne (ne_of_none e ln0)]
   exact k1 b o e hb
end
end Lk

namespace Lk
open PySem L2
section
variable {P:Program} {w:World} {K:PySem.W.Frag} {mg:Str -> Option Value} {base:Heap} {C:Addr}
end
end Lk

namespace Lk
open PySem L2
def Std (L:Line) (p:Nat) (t:ShS):Prop:=(∀ m, m ∈ t.stand ↔ InP L p m) ∧ t.places = (p:Int)
def metB (s:Option Nat) (p:Nat):Bool:=match s with
 | some i=>decide (i < p)
 | none=>false
def PassL (S:BS) (k:Int) (L L':Line):Prop:=(∀ i m, Has L' i m ↔ Has L i m ∧ staysB S k m = true) ∧ L'.length ≤ L.length ∧ (Tr L -> Tr L')
def StepL (S:BS) (d:Dd) (L L':Line) (s:Option Nat):Prop:=match d with
 | .ask n _=>∃ L1, PassL (deedS S) 1 L L1 ∧ s = spotN L1 n ∧ L' = bring (passS (deedS S) 1) n (rmv L1 n)
 | .rest k=>PassL (deedS S) k L L' ∧ s = none
 | .drop n=>L' = rmv L n ∧ s = none
theorem carry_len {S:BS}:∀ {L:Line} {c:Str}, (carry S c L).length ≤ L.length + 1
 | [], c=>Nat.le_refl _
 | none :: r, c=>Nat.le_succ _
 | some t :: r, c=>by
   unfold carry
   by_cases e:HT.lexLt (keyOf S t) (keyOf S c) = true
   ·rw [if_pos e]; exact Nat.succ_le_succ carry_len
   ·rw [if_neg e]; exact Nat.succ_le_succ carry_len
theorem bring_len {S:BS} {L:Line} {n:Str}:(bring S n L).length ≤ L.length + 1:=by
 match L with
 | []=>exact Nat.le_refl _
 | none :: r=>exact Nat.le_succ _
 | some t :: r=>exact Nat.succ_le_succ carry_len
theorem inP_pass {S:BS} {k:Int} {L L':Line} (h:PassL S k L L') {p:Nat} {m:Str}:InP L' p m ↔ InP L p m ∧ staysB S k m = true:=by
 constructor
 ·rintro ⟨i, hi, z⟩
  obtain ⟨z1, z2⟩:=(h.1 i m).mp z
  exact ⟨⟨i, hi, z1⟩, z2⟩
 ·rintro ⟨⟨i, hi, z1⟩, z2⟩
  exact ⟨i, hi, (h.1 i m).mpr ⟨z1, z2⟩⟩
theorem inP_rmv {L:Line} {n:Str} (nd:ND L) {p:Nat} {m:Str}:InP (rmv L n) p m ↔ InP L p m ∧ m ≠ n:=by
 constructor
 ·rintro ⟨i, hi, z⟩
  obtain ⟨z1, z2⟩:=(has_rmv nd).mp z
  exact ⟨⟨i, hi, z1⟩, z2⟩
 ·rintro ⟨⟨i, hi, z1⟩, z2⟩
  exact ⟨i, hi, (has_rmv nd).mpr ⟨z1, z2⟩⟩
theorem PassL.nd {S:BS} {k:Int} {L L':Line} (h:PassL S k L L') (nd:ND L):ND L':=nd_of_has nd fun i m z=>((h.1 i m).mp z).1
theorem PassL.lin {S:BS} {k:Int} {L L':Line} (h:PassL S k L L') (lin:LineIn S L) (nd:(namesOf S.ents).Nodup):LineIn (passS S k) L':=fun i m z=>by
 obtain ⟨z1, z2⟩:=(h.1 i m).mp z
 obtain ⟨e, he⟩:=lin i m z1
 exact findE_pass nd he z2
theorem StepL.ok {ns:List Str} {sp pt:Int} {k:Nat} {S:BS} {d:Dd} {L L':Line} {s:Option Nat} (N:Now ns sp pt k S) (nd:ND L) (lin:LineIn S L) (h:StepL S d L L' s):ND L' ∧ LineIn (stepB S d) L' ∧ L'.length ≤ L.length + 1:=by
 have cd:Core (deedS S) k:=N.co.of rfl
 have lin0:LineIn (deedS S) L:=lin
 cases d with
 | rest z=>
   obtain ⟨h, _⟩:=h
   exact ⟨h.nd nd, h.lin lin0 cd.nd, Nat.le_succ_of_le h.2.1⟩
 | drop n=>
   obtain ⟨rfl, _⟩:=h
   exact ⟨nd_of_has nd fun i m z=>((has_rmv nd).mp z).1, fun i m z=>lin i m ((has_rmv nd).mp z).1, Nat.le_succ_of_le (rmv_len _ _)⟩
 | ask n w=>
   obtain ⟨L1, h1, _, rfl⟩:=h
   have nd1:=h1.nd nd
   have lin1:=h1.lin lin0 cd.nd
   have nd2:ND (rmv L1 n):=nd_of_has nd1 fun i m z=>((has_rmv nd1).mp z).1
   refine ⟨nd_bring nd2 fun i z=>((has_rmv nd1).mp z).2 rfl, fun i m z=>?_, Nat.le_trans bring_len (Nat.succ_le_succ (Nat.le_trans (rmv_len _ _) h1.2.1))⟩
   show ∃ e, findE (growE (passS (deedS S) 1).ents n w _) m = some e
   rw [findE_grow]
   by_cases e:m = n
   ·rw [if_pos e]; exact ⟨_, rfl⟩
   ·rw [if_neg e]
    rcases has_bring z with y | ⟨j, y⟩
    ·exact absurd y e
    ·exact lin1 j m ((has_rmv nd1).mp y).1
theorem StepL.tr {S:BS} {d:Dd} {L L':Line} {s:Option Nat} (tr:Tr L) (h:StepL S d L L' s):Tr L':=by
 cases d with
 | rest z=>exact h.1.2.2 tr
 | drop n=>rw [h.1]; exact tr_rmv tr
 | ask n w=>
   obtain ⟨L1, h1, _, rfl⟩:=h
   exact tr_bring (tr_rmv (h1.2.2 tr))
theorem metB_iff {L:Line} {n:Str} {p:Nat} (nd:ND L):metB (spotN L n) p = true ↔ InP L p n:=by
 unfold metB
 cases e:spotN L n with
 | none=>
   refine ⟨fun z=>(by cases z), fun ⟨i, _, z⟩=>absurd z (spotN_none e i)⟩
 | some i=>
   have hi:=(spotN_some e).1
   refine ⟨fun z=>⟨i, of_decide_eq_true z, hi⟩, fun ⟨j, hj, z⟩=>decide_eq_true ?_⟩
   rw [nd i j n hi z]; exact hj
theorem Std.step {ns:List Str} {sp pt:Int} {k:Nat} {S:BS} {d:Dd} {L L':Line} {s:Option Nat} {p:Nat} {t t':ShS} {v:V} (N:Now ns sp pt k S) (nd:ND L) (lin:LineIn S L) (hp:1 ≤ p) (h:StepL S d L L' s) (st:Std L p t) (nt:t.stand.Nodup) (hd:DeedT S d t t' v) :
  Std L' p t' ∧ (∀ n w, d = .ask n w -> v = .bl (metB s p)) ∧ (∀ n, d = .drop n -> v = .bl (metB (spotN L n) p)):=by
 have cd:Core (deedS S) k:=N.co.of rfl
 have lin0:LineIn (deedS S) L:=lin
 obtain ⟨st, pl⟩:=st
 cases d with
 | rest z=>
   obtain ⟨h, _⟩:=h
   obtain ⟨pa, rfl⟩:=hd
   refine ⟨⟨fun m=>?_, pa.pl.trans pl⟩, fun _ _ e=>(nomatch e), fun _ e=>(nomatch e)⟩
   rw [pa.st, List.mem_filter, st, inP_pass h]
 | drop n=>
   obtain ⟨rfl, _⟩:=h
   obtain ⟨pa, rfl⟩:=hd
   obtain ⟨a1, a2, _⟩:=dropT_stand pa
   refine ⟨⟨fun m=>?_, a2.trans pl⟩, fun _ _ e=>(nomatch e), fun n' e=>?_⟩
   ·rw [a1, List.mem_filter, st, inP_rmv nd, decide_eq_true_eq]
   ·cases e
    congr 1
    rw [Bool.eq_iff_iff, decide_eq_true_eq, metB_iff nd]
    exact st n
 | ask n w=>
   obtain ⟨L1, h1, rfl, rfl⟩:=h
   obtain ⟨t1, pa, at_, rfl⟩:=hd
   have nd1:=h1.nd nd
   have lin1:=h1.lin lin0 cd.nd
   have c1:=cd.pass (st:=1)
   have nd2:ND (rmv L1 n):=nd_of_has nd1 fun i m z=>((has_rmv nd1).mp z).1
   have lin2:LineIn (passS (deedS S) 1) (rmv L1 n):=fun i m z=>lin1 i m ((has_rmv nd1).mp z).1
   have nt1:t1.stand.Nodup:=by rw [pa.st]; exact List.filter_sublist.nodup nt
   have st1:∀ m, m ∈ t1.stand ↔ InP L1 p m:=fun m=>by rw [pa.st, List.mem_filter, st, inP_pass h1]
   have pl1:t1.places = (p:Int):=pa.pl.trans pl
   refine ⟨?_, fun n' w' e=>?_, fun _ e=>nomatch e⟩
   ·unfold AskT at at_
    by_cases hn:n ∈ t1.stand
    ·rw [if_pos hn] at at_
     subst at_
     obtain ⟨i, hi, hin⟩:=(st1 n).mp hn
     have hole:¬ Full (rmv L1 n) p:=fun z=>by
      obtain ⟨m, hm⟩:=z i hi
      obtain ⟨y1, y2⟩:=(has_rmv nd1).mp hm
      have:some (some m) = some (some n):=y1.symm.trans hin
      exact y2 (Option.some.inj (Option.some.inj this))
     refine ⟨fun m=>?_, pl1⟩
     rw [bring_hole hole, inP_rmv nd1, st1]
     refine ⟨fun z=>?_, fun z=>z.elim (fun e=>by rw [e]; exact ⟨i, hi, hin⟩) fun z=>z.1⟩
     by_cases e:m = n
     ·exact .inl e
     ·exact .inr ⟨z, e⟩
    ·rw [if_neg hn] at at_
     have hn1:¬ InP L1 p n:=fun z=>hn ((st1 n).mpr z)
     have st2:∀ m, m ∈ t1.stand ↔ InP (rmv L1 n) p m:=fun m=>by
      rw [inP_rmv nd1, st1]
      exact ⟨fun z=>⟨z, fun e=>hn1 (by rw [← e]; exact z)⟩, fun z=>z.1⟩
     have hfull:=full_iff nd2 nt1 st2
     unfold TakeIn at at_
     by_cases hf:(t1.stand.length:Int) = t1.places
     ·rw [if_pos hf] at at_
      obtain ⟨m, hm, hml, rfl⟩:=at_
      have hF:Full (rmv L1 n) p:=hfull.mp (by rw [pl1] at hf; omega)
      obtain ⟨x, hx, hxm, hxe⟩:=bring_full (n:=n) c1.inj hp hF nd2 lin2
      have ent:∀ y, y ∈ t1.stand -> ∃ e, findE (passS (deedS S) 1).ents y = some e:=fun y hy=>by
       obtain ⟨i, _, z⟩:=(st1 y).mp hy
       exact lin1 i y z
      have hmx:m = x:=keys_inj c1.inj (ent m hm) (ent x ((st2 x).mpr hx)) (hxm m ((st2 m).mp hm)) (hml x ((st2 x).mpr hx))
      subst hmx
      refine ⟨fun y=>?_, pl1⟩
      show y ∈ (t1.stand.filter fun z=>decide (z ≠ m)) ++ [n] ↔ _
      rw [List.mem_append, List.mem_filter, List.mem_singleton, decide_eq_true_eq, hxe, ← st2]
      exact ⟨fun z=>z.elim .inr .inl, fun z=>z.elim .inr .inl⟩
     ·rw [if_neg hf] at at_
      subst at_
      have hF:¬ Full (rmv L1 n) p:=fun z=>hf (by rw [pl1, hfull.mpr z])
      refine ⟨fun y=>?_, pl1⟩
      show y ∈ t1.stand ++ [n] ↔ _
      rw [List.mem_append, List.mem_singleton, bring_hole hF, ← st2]
      exact ⟨fun z=>z.elim .inr .inl, fun z=>z.elim .inr .inl⟩
   ·cases e
    congr 1
    rw [Bool.eq_iff_iff, decide_eq_true_eq, metB_iff nd1]
    exact st1 n
end Lk

namespace Lk
open PySem L2
def spotA:Option Nat -> V
 | some i=>.int ((i + 1:Nat):Int)
 | none=>.non
def StepR (S:BS) (d:Dd) (t t':RoS) (s:Option Nat) (v:V):Prop:=StepL S d t.line t'.line s ∧ (t'.met = match s with | some i=>incM t.met ((i + 1:Nat):Int) | none=>t.met) ∧ v = match d with
 | .ask _ _=>spotA s
 | .rest k=>.int (timesOf S k)
 | .drop n=>.bl (spotN t.line n).isSome
def spDoR (C:Addr):Sp:=fun vs H Q _=>∃ (κ:Kd RoS) (S:BS) (t:RoS) (q:Addr) (d:Dd) (ns:List Str), (rows C).is κ ∧ vs = [.ref κ.p, .ref q] ∧ H q = some (.tup (Dd.v d)) ∧ BookAt κ S t H ∧ Fit S ∧ Fit (passS (deedS S) 1) ∧ GoodD ns d ∧ (∀ n ∈ ns, GoodName n) ∧ ND t.line ∧ LineIn S t.line ∧ t.line.length < 1000 ∧ t.met.length < 1000 ∧
 ∀ t' s v H', StepR S d t t' s v -> BookAt κ (stepB S d) t' H' -> Fr κ H H' -> Q v H'
theorem doR_do {C:Addr} {vs:List V} {H:Hp} {Q:VK} {E:XK} (h:spDoR C vs H Q E):spDo C (spRAsk C) (spRest (rows C) fadeR) (spRDrop C) vs H Q E:=by
 obtain ⟨κ, S, t, q, d, ns, hκ, rfl, hq, B, fit, fit1, gd, gn, nd, lin, fl, fm, k⟩:=h
 obtain ⟨dx, h1⟩:=B.ob
 have hC:=(rows C).cls κ hκ
 have O:=(rows C).ok κ hκ
 rw [hC] at h1
 refine ⟨κ.p, q, dx, d, _, rfl, hq, h1, B.fno O (by decide +kernel) (by decide +kernel), B.fno O (by decide +kernel) (by decide +kernel), B.fno O (by decide +kernel) (by decide +kernel), ?_⟩
 cases d with
 | ask n w=>
   refine ⟨κ, S, t, n, w, hκ, rfl, B, fit, fit1, gn n gd.1, gd.2.1, gd.2.2, nd, lin, fl, fm, fun t1 H' p b f=>?_⟩
   refine k _ (spotN t1.line n) _ H' ⟨⟨t1.line, ⟨p.hs, p.ln, p.tr⟩, rfl, rfl⟩, ?_, ?_⟩ b f
   ·show (match spotN t1.line n with | some i=>incM t1.met ((i + 1:Nat):Int) | none=>t1.met) = _
    rw [p.mt]
   ·unfold spotV spotA
    cases spotN t1.line n <;> rfl
 | rest z=>
   refine ⟨κ, S, t, z, hκ, rfl, B, fit, gd.1, gd.2, fun t' H' p b f=>?_⟩
   have pl:=passedL_of nd p
   exact k t' none _ H' ⟨⟨⟨pl.hs, pl.ln, pl.tr⟩, rfl⟩, pl.mt, rfl⟩ b f
 | drop n=>exact ⟨κ, S, t, n, hκ, rfl, B, gn n gd, fun H' b f=>k { t with line:=rmv t.line n } none _ H' ⟨⟨rfl, rfl⟩, rfl, rfl⟩ b f⟩
end Lk

namespace Lk
open PySem L2
def somes (L:Line):List Str:=L.filterMap id
theorem somes_take_succ {L:Line} {i:Nat} (hi:i < L.length):somes (L.take (i + 1)) = somes (L.take i) ++ (match L[i] with | some n=>[n] | none=>[]):=by
 unfold somes
 rw [List.take_succ_eq_append_getElem hi, List.filterMap_append]
 congr 1
 cases L[i] <;> rfl
theorem mem_somes {L:Line} {m:Str}:m ∈ somes L ↔ ∃ i, Has L i m:=by
 unfold somes Has
 rw [List.mem_filterMap]
 constructor
 ·rintro ⟨x, hx, e⟩
  obtain ⟨i, hi, rfl⟩:=List.mem_iff_getElem.mp hx
  exact ⟨i, by rw [List.getElem?_eq_getElem hi]; exact congrArg some e⟩
 ·rintro ⟨i, e⟩
  obtain ⟨hi, e⟩:=List.getElem?_eq_some_iff.mp e
  exact ⟨some m, by rw [← e]; exact List.getElem_mem hi, rfl⟩
theorem mem_somes_take {L:Line} {p:Nat} {m:Str}:m ∈ somes (L.take p) ↔ InP L p m:=by
 rw [mem_somes]
 unfold InP Has
 constructor
 ·rintro ⟨i, e⟩
  rw [List.getElem?_take] at e
  by_cases h:i < p
  ·rw [if_pos h] at e; exact ⟨i, h, e⟩
  ·rw [if_neg h] at e; cases e
 ·rintro ⟨i, h, e⟩
  exact ⟨i, by rw [List.getElem?_take, if_pos h]; exact e⟩
theorem nodup_somes:∀ {L:Line}, ND L -> (somes L).Nodup
 | [], _=>List.nodup_nil
 | none :: r, h=>nodup_somes (L:=r) fun i j m a b=>Nat.succ.inj (h (i + 1) (j + 1) m a b)
 | some n :: r, h=>by
   show (n :: somes r).Nodup
   rw [List.nodup_cons]
   refine ⟨fun z=>?_, nodup_somes (L:=r) fun i j m a b=>Nat.succ.inj (h (i + 1) (j + 1) m a b)⟩
   obtain ⟨i, hi⟩:=mem_somes.mp z
   have:=h 0 (i + 1) n rfl hi
   omega
theorem ndTake {L:Line} {p:Nat} (h:ND L):ND (L.take p):=fun i j m a b=>by
 unfold Has at a b
 rw [List.getElem?_take] at a b
 by_cases hi:i < p
 ·by_cases hj:j < p
  ·rw [if_pos hi] at a; rw [if_pos hj] at b; exact h i j m a b
  ·rw [if_neg hj] at b; cases b
 ·rw [if_neg hi] at a; cases a
theorem sortable_line {S:BS} {L:Line} {ns:List Str} {k p:Nat} (h:LineIn S L) (c:Core S k) (nd:ND L) (nm:∀ n ∈ namesOf S.ents, n ∈ ns) (hl:ns.length ≤ 30):Sortable S (somes (L.take p)):=by
 have th:∀ n ∈ somes (L.take p), ∃ e, findE S.ents n = some e:=fun n hn=>by
  obtain ⟨i, _, hi⟩:=mem_somes_take.mp hn
  exact h i n hi
 have ndp:=nodup_somes (ndTake (p:=p) nd)
 refine ⟨th, ?_, ndp, c.inj⟩
 have:=PySem.length_le_of_nodup_of_subset _ _ ndp (fun n hn=>by
  obtain ⟨e, he⟩:=th n hn
  exact nm n (List.mem_map.mpr ⟨e, findE_mem he, (findE_some he).1⟩))
 omega
theorem weak_uniq {S:BS} {xs ys as bs:List Str} (h1:Weak S xs as) (h2:Weak S ys bs) (h:∀ m, m ∈ xs ↔ m ∈ ys):as = bs:=by
 have a:=sublist_of h1.2 h2.2 fun x hx=>h2.1.mem_iff.mpr ((h x).mp (h1.1.mem_iff.mp hx))
 have b:=sublist_of h2.2 h1.2 fun x hx=>h1.1.mem_iff.mpr ((h x).mpr (h2.1.mem_iff.mp hx))
 exact a.eq_of_length (Nat.le_antisymm a.length_le b.length_le)
section
variable {P:Program} {w:World} {K:PySem.W.Frag} {mg:Str -> Option Value} {base:Heap} {C:Addr}
def spNamesOn (C:Addr) (K:PySem.W.Frag):Sp:=fun vs H Q _=>∃ (κ:Kd RoS) (S:BS) (t:RoS) (x:Addr) (L:Line), (rows C).is κ ∧ vs = [.ref κ.p, .ref x] ∧ BookAt κ S t H ∧ SqL K H x (lineV L) ∧ L.length ≤ 1000 ∧ Sortable S (somes L) ∧
 ∀ l H' ys, H l = none -> Same H H' -> H' l = some (.lst (ys.map V.str)) -> Weak S (somes L) ys -> Q (.ref l) H'
theorem scNamesOn:FnScope ["self", "line"] ["self", "line"] (defScope sNamesOn):=⟨rfl, rfl, rfl, by decide +kernel, rfl, by decide +kernel, by decide +kernel⟩
theorem ok_namesOn {f g:Addr} (F:FunB K "names_on" "Row.names_on" sNamesOn f ["self", "line"]) (T:RTxt K C) (G:FnP P w K mg base 6 g ["self", "names"] (spInOrder (rows C) K)) (M:Meth K C "in_order" g):FnP P w K mg base 8 f ["self", "line"] (spNamesOn C K):=by
 refine F.ok scNamesOn (fun vs H Q E h=>?_) (fun cdv A outer s H vs Q E hr h=>?_)
 ·obtain ⟨κ, S, t, x, L, _, rfl, _⟩:=h
  rfl
 ·obtain ⟨κ, S, t, x, L, hκ, rfl, B1, hx, few, hs, k⟩:=h
  have O:=(rows C).ok κ hκ
  have hC:=(rows C).cls κ hκ
  obtain ⟨dx, h1⟩:=id B1.ob
  rw [hC] at h1
  refine ⟨_, pss_one (ps_ret (pe_methP (pv 0) T.cl M G (hr.mono (by decide)) (pa_cons
   (pe_lc (N':=["name"]) (cap:=[none]) rfl rfl (pi_list (pv 1)) (fun _ _ _ _ _=>pg_name (i:=0) (by decide +kernel:(["name"]:List Str).Nodup) rfl (Or.inl rfl)) (fun _ _ _ _ _=>pts_one (pt_cmpR op_notN (pv 0) pe_non (nomark _)))
     (fun _ _ _ _ _=>pv 0)) pa_nil))), ?_⟩
  refine ⟨_, rfl, κ.p, dx, _, rfl, h1, B1.fno O (by decide +kernel) (by decide +kernel), _, rfl, x, rfl, ⟨_, hx⟩, ?_⟩
  have hle:L.length ≤ sizeLine:=Nat.le_trans few (by decide)
  refine lc_go L.length (fun i ys σ' H'=>ys = (somes (L.take i)).map V.str ∧ H' = H ∧ ∃ v, σ' = [v]) ⟨rfl, rfl, none, rfl⟩ hle ?_ ?_ ?_ ?_
  ·rintro i ys σ' H' hi ⟨_, rfl, _⟩
   exact ⟨_, optS L[i], hx, by simp [hi]⟩
  ·rintro ys σ' H' ⟨_, rfl, _⟩
   exact ⟨_, hx, by rw [List.length_map]; exact Nat.le_refl _⟩
  ·rintro i ys σ' H' v H2 hi hl ⟨rfl, rfl, w', rfl⟩ ⟨rfl, hy⟩
   have hv:v = optS L[i]:=by
    have:=hy _ hx
    rw [List.getElem?_map, List.getElem?_eq_getElem hi] at this
    exact (Option.some.inj this).symm
   subst hv
   refine ⟨_, rfl, rfl, _, rfl, ?_⟩
   have e:=somes_take_succ hi
   cases hq:L[i] with
   | none=>
     rw [hq] at e
     refine iteF ?_
     exact lcNo hi hl ⟨by rw [e, List.append_nil], rfl, _, rfl⟩
   | some n=>
     rw [hq] at e
     refine iteT ?_
     refine ⟨_, rfl, ?_⟩
     exact lcYes hi hl hle ⟨by rw [e, List.map_append]; rfl, rfl, _, rfl⟩
  rintro ys σ' H' ⟨rfl, rfl, w', rfl⟩ lq hlq
  rw [List.take_length]
  have Sl:Same H' (upd H' lq (.lst ((somes L).map V.str))):=Same.upd hlq
  have hll:(upd H' lq (.lst ((somes L).map V.str))) lq = some (.lst ((somes L).map V.str)):=upd_same
  have B2:=B1.same O Sl
  have fr:∀ l, (upd H' lq (.lst ((somes L).map V.str))) l = none -> H' l = none:=fun l hl=>by
   cases e:H' l with
   | none=>rfl
   | some o=>rw [Sl _ _ e] at hl; cases hl
  generalize upd H' lq (.lst ((somes L).map V.str)) = H1 at Sl hll B2 fr ⊢
  exact ⟨κ, S, t, _, somes L, hκ, rfl, B2, ⟨lq, rfl, .inl (SqL.of hll)⟩, hs, fun l H2 ys hl S2 hl2 wk=>k l H2 ys (fr l hl) (Sl.trans S2) hl2 wk⟩
def spRNames (C:Addr):Sp:=fun vs H Q _=>∃ (κ:Kd RoS) (S:BS) (t:RoS), (rows C).is κ ∧ vs = [.ref κ.p] ∧ BookAt κ S t H ∧ Sortable S (somes t.line) ∧
 ∀ l H' ys, H l = none -> Same H H' -> H' l = some (.lst (ys.map V.str)) -> Weak S (somes t.line) ys -> Q (.ref l) H'
theorem scRNames:FnScope ["self"] ["self"] (defScope sRNames):=⟨rfl, rfl, rfl, by decide +kernel, rfl, by decide +kernel, by decide +kernel⟩
theorem ok_rNames {f g:Addr} (F:FunB K "names" "Row.names" sRNames f ["self"]) (T:RTxt K C) (G:FnP P w K mg base 8 g ["self", "line"] (spNamesOn C K)) (M:Meth K C "names_on" g):FnP P w K mg base 10 f ["self"] (spRNames C):=by
 refine F.ok scRNames (fun vs H Q E h=>?_) (fun cdv A outer s H vs Q E hr h=>?_)
 ·obtain ⟨κ, S, t, _, rfl, _⟩:=h
  rfl
 ·obtain ⟨κ, S, t, hκ, rfl, B1, hs, k⟩:=h
  have O:=(rows C).ok κ hκ
  obtain ⟨p, dc, dl, ln, ma, hi⟩:=id hκ
  obtain ⟨rfl, n0, n1, n2, n3⟩:=id hi
  obtain ⟨dx, h1⟩:=id B1.ob
  refine ⟨_, pss_one (ps_ret (pe_methP (pv 0) T.cl M G (hr.mono (by decide)) (pa_cons (pe_fld (pv 0) rfl) pa_nil))), ?_⟩
  refine ⟨_, rfl, p, dx, _, rfl, h1, B1.fno O (by decide +kernel) (by decide +kernel), _, rfl, p, C, dx, _, _, rfl, h1, T.cl, T.s1, f_line, ?_⟩
  exact ⟨_, S, t, ln, t.line, hκ, rfl, B1, SqL.of B1.ex.li, B1.ex.few, hs, k⟩
def spSpots (C:Addr):Sp:=fun vs H Q _=>∃ (κ:Kd RoS) (S:BS) (t:RoS), (rows C).is κ ∧ vs = [.ref κ.p] ∧ BookAt κ S t H ∧ ∀ l, H l = none -> Q (.ref l) (upd H l (.lst (lineV t.line)))
theorem scSpots:FnScope ["self"] ["self"] (defScope sSpots):=⟨rfl, rfl, rfl, by decide +kernel, rfl, by decide +kernel, by decide +kernel⟩
theorem ok_spots {f:Addr} (F:FunB K "spots" "Row.spots" sSpots f ["self"]) (B:Blt mg) (T:RTxt K C):FnP P w K mg base 1 f ["self"] (spSpots C):=by
 refine F.ok scSpots (fun vs H Q E h=>?_) (fun cdv A outer s H vs Q E hr h=>?_)
 ·obtain ⟨κ, S, t, _, rfl, _⟩:=h
  rfl
 ·obtain ⟨κ, S, t, hκ, rfl, B1, k⟩:=h
  obtain ⟨p, dc, dl, ln, ma, hi⟩:=id hκ
  obtain ⟨rfl, n0, n1, n2, n3⟩:=id hi
  obtain ⟨dx, h1⟩:=id B1.ob
  refine ⟨_, pss_one (ps_ret (pe_callTy call_list_of rfl B.list PyProof.Rows.boot_list (pa_cons (pe_fld (pv 0) rfl) pa_nil))), ?_⟩
  refine ⟨_, rfl, p, C, dx, _, _, rfl, h1, T.cl, T.s1, f_line, ?_⟩
  exact ⟨ln, _, rfl, .inl (SqL.of B1.ex.li), k⟩
theorem cut_frontT {xs:List V} {c:Nat}:cutV xs none (some (c:Int)) = xs.take c:=by
 unfold cutV
 rw [HT.sIx_none, HT.sIx_nat, List.drop_zero, Nat.sub_zero]
 rcases Nat.le_total c xs.length with h | h
 ·rw [Nat.min_eq_left h]
 ·rw [Nat.min_eq_right h, List.take_length, List.take_of_length_le h]
def spNamesAt (C:Addr):Sp:=fun vs H Q _=>∃ (κ:Kd RoS) (S:BS) (t:RoS) (q:Nat), (rows C).is κ ∧ vs = [.ref κ.p, .int q] ∧ 1 ≤ q ∧ q ≤ 1000 ∧ BookAt κ S t H ∧ Sortable S (somes (t.line.take q)) ∧
 ∀ l H' ys, H l = none -> Same H H' -> H' l = some (.lst (ys.map V.str)) -> Weak S (somes (t.line.take q)) ys -> Q (.ref l) H'
theorem scNamesAt:FnScope ["self", "places"] ["self", "places"] (defScope sNamesAt):=⟨rfl, rfl, rfl, by decide +kernel, rfl, by decide +kernel, by decide +kernel⟩
theorem ok_namesAt {f g gp:Addr} (F:FunB K "names_at" "Row.names_at" sNamesAt f ["self", "places"]) (T:RTxt K C) (Gp:FnP P w K mg base 2 gp ["places"] spCkPlaces) (hgp:mg "check_places" = some (.ref gp)) (G:FnP P w K mg base 8 g ["self", "line"] (spNamesOn C K)) (M:Meth K C "names_on" g):FnP P w K mg base 10 f ["self", "places"] (spNamesAt C):=by
 refine F.ok scNamesAt (fun vs H Q E h=>?_) (fun cdv A outer s H vs Q E hr h=>?_)
 ·obtain ⟨κ, S, t, q, _, rfl, _⟩:=h
  rfl
 ·obtain ⟨κ, S, t, q, hκ, rfl, q1, q2, B1, hs, k⟩:=h
  have O:=(rows C).ok κ hκ
  obtain ⟨p, dc, dl, ln, ma, hi⟩:=id hκ
  obtain ⟨rfl, n0, n1, n2, n3⟩:=id hi
  obtain ⟨dx, h1⟩:=id B1.ob
  refine ⟨_, pss_cons (ps_expr (pe_callP Gp (hr.mono (by decide)) hgp (pa_cons (pv 1) pa_nil))) (pss_one (ps_ret (pe_methP (pv 0) T.cl M G (hr.mono (by decide)) (pa_cons (pe_slice sl_list (pe_fld (pv 0) rfl) po_none (po_some (pv 1))) pa_nil)))), ?_⟩
  refine ⟨_, rfl, q, rfl, by omega, by omega, ?_⟩
  refine ⟨_, rfl, p, dx, _, rfl, h1, B1.fno O (by decide +kernel) (by decide +kernel), _, rfl, p, C, dx, _, _, rfl, h1, T.cl, T.s1, f_line, _, rfl, _, rfl, ln, _, rfl, SqL.of B1.ex.li, fun l hl=>?_⟩
  rw [cut_frontT, ← List.map_take]
  have Sl:Same H (upd H l (.lst (lineV (t.line.take q)))):=Same.upd hl
  have hll:(upd H l (.lst (lineV (t.line.take q)))) l = some (.lst (lineV (t.line.take q))):=upd_same
  have B2:=B1.same O Sl
  have fr:∀ z, (upd H l (.lst (lineV (t.line.take q)))) z = none -> H z = none:=fun z hz=>by
   cases e:H z with
   | none=>rfl
   | some o=>rw [Sl _ _ e] at hz; cases hz
  generalize upd H l (.lst (lineV (t.line.take q))) = H1 at Sl hll B2 fr ⊢
  exact ⟨_, S, t, l, t.line.take q, hκ, rfl, B2, SqL.of hll, Nat.le_trans (by rw [List.length_take]; exact Nat.min_le_right ..) B1.ex.few, hs, fun z H2 ys hz S2 hz2 wk=>k z H2 ys (fr z hz) (Sl.trans S2) hz2 wk⟩
end
end Lk

namespace Lk
open PySem L2
abbrev sDepth:Stmt:=top 33
abbrev sAnsw:Stmt:=top 34
abbrev sSpotsFit:Stmt:=top 35
abbrev sAllFit:Stmt:=top 36
abbrev sLikeBook:Stmt:=top 37
abbrev sLaw:Stmt:=top 38
section
variable {P:Program} {w:World} {K:PySem.W.Frag} {mg:Str -> Option Value} {base:Heap} {C:Addr}
abbrev sizesV (ps:List Nat):List V:=ps.map fun p:Nat=>V.int (p:Int)
def spDepth (K:PySem.W.Frag):Sp:=fun vs H Q _=>∃ (s:Option Nat) (sz an:Addr) (ps:List Nat), vs = [spotA s, .ref sz, .ref an] ∧ SqL K H sz (sizesV ps) ∧ SqL K H an (ps.map fun p=>.bl (metB s p)) ∧ ∀ H', Same H H' -> Q (.bl true) H'
theorem scDepth:FnScope ["_law_found", "_law_sizes", "_law_answers_here", "_law_places", "_law_answer", "_law_met"] ["_law_found", "_law_sizes", "_law_answers_here"] (defScope sDepth):=⟨rfl, rfl, rfl, by decide +kernel, rfl, by decide +kernel, by decide +kernel⟩
theorem ok_depth {f gw:Addr} (F:FunB K "_law_depth_fits" "_law_depth_fits" sDepth f ["_law_found", "_law_sizes", "_law_answers_here"]) (B:Blt mg) (bzip:mg "zip" = none) (Gw:FnP P w K mg base 1 gw ["_law_found"] spLWhole) (hgw:mg "_law_whole" = some (.ref gw)):FnP P w K mg base 3 f ["_law_found", "_law_sizes", "_law_answers_here"] (spDepth K):=by
 refine F.ok scDepth (fun vs H Q E h=>?_) (fun cdv A outer s H vs Q E hr h=>?_)
 ·obtain ⟨s, sz, an, ps, rfl, _⟩:=h
  rfl
 ·obtain ⟨s, sz, an, ps, rfl, hsz, han, kk⟩:=h
  refine ⟨_, pss_cons (ps_if (PW.pt (pw_and (pt_cmpR op_notN (pv 0) pe_non (nomark _)) (pw_and1 (PW.pt (pw_or (pt_not (pt_val (pe_callP Gw (hr.mono (by decide)) hgw (pa_cons (pv 0) pa_nil)))) (pw_or1 (pt_cmpR op_lt (pv 0) pe_int (nomark _)))))))) (pss_one (ps_ret pe_bl)) pss_nil)
   (pss_cons (ps_for PassesOwn.never rfl (pi_zip rfl bzip (pa_cons (pv 1) (pa_cons (pv 2) pa_nil))) (pg_tup rfl (pgs_cons (pg_name (i:=3) scDepth.nd rfl (Or.inl rfl)) (pgs_cons (pg_name (i:=4) scDepth.nd rfl (Or.inl rfl)) pgs_nil)))
     (pss_cons (ps_set (i:=5) scDepth.nd rfl (Or.inl rfl) (pe_and (pe_cmpR op_notN (pv 0) pe_non (nomark _)) (pe_one (pe_cmpR op_le (pv 0) (pv 3) (nomark _)))))
     (pss_one (ps_if (PW.pt (pw_or (pt_not (pt_val (pe_isi B.isi B.bool (pv 4) PyProof.Rows.boot_bool))) (pw_or1 (pt_cmpR op_ne (pv 4) (pv 5) (nomark _))))) (pss_one (ps_ret pe_bl)) pss_nil))))
   (pss_one (ps_ret pe_bl))), ?_⟩
  have first:∀ {c:Bool} {A B:Prop}, c = false -> B -> (if c = true then A else B):=fun {c A B} h b=>by subst h; exact iteF b
  cases s with
  | none=>
    refine ⟨_, rfl, rfl, _, rfl, ?_⟩
    refine iteF ?_
    refine iteF ?_
    refine ⟨_, rfl, _, rfl, sz, an, rfl, ⟨_, hsz⟩, ⟨_, han⟩, for_go ps.length (fun k σ H'=>Same H H' ∧ ∃ z3 z4 z5, σ = [some .non, some (.ref sz), some (.ref an), z3, z4, z5]) ⟨Same.refl _, _, _, _, rfl⟩ ?_ ?_ ?_ ?_⟩
    ·rintro i σ H' hi ⟨SS, _⟩
     exact ⟨_, .int ps[i], _, .bl (metB none ps[i]), SS.seq hsz, by simp [hi], SS.seq han, by simp [hi]⟩
    ·rintro σ H' ⟨SS, _⟩
     exact ⟨_, _, SS.seq hsz, SS.seq han, .inl (by rw [List.length_map]; exact Nat.le_refl _)⟩
    ·rintro i σ H' x H2 hi ⟨SS, z3, z4, z5, rfl⟩ ⟨T, x1, y1, hT, rfl, rfl, h1, h2⟩
     have e1:x1 = .int ps[i]:=by
      have:=h1 _ (SS.seq hsz)
      rw [List.getElem?_map, List.getElem?_eq_getElem hi] at this
      exact (Option.some.inj this).symm
     have e2:y1 = .bl (metB none ps[i]):=by
      have:=h2 _ (SS.seq han)
      rw [List.getElem?_map, List.getElem?_eq_getElem hi] at this
      exact (Option.some.inj this).symm
     subst e1 e2
     refine ⟨T, _, rfl, SqT.of upd_same, rfl, _, _, rfl, _, _, rfl, rfl, ?_⟩
     refine ⟨_, rfl, rfl, _, rfl, iteF ?_⟩
     refine ⟨_, rfl, _, "bool", _, _, rfl, .bl _, kit_bb K, _, rfl, ?_⟩
     refine iteF ?_
     refine ⟨_, rfl, _, rfl, rfl, _, rfl, ?_⟩
     refine first (by rw [decide_eq_true (show V.bl (metB none ps[i]) = V.bl false from rfl)]; rfl) ?_
     exact ⟨SS.trans (Same.upd hT), _, _, _, rfl⟩
    ·rintro σ H' ⟨SS, z3, z4, z5, rfl⟩
     exact kk H' SS
  | some j=>
    refine ⟨_, rfl, rfl, _, rfl, ?_⟩
    refine iteT ?_
    refine ⟨_, rfl, _, rfl, true, rfl, ?_⟩
    refine iteF ?_
    refine ⟨_, rfl, _, _, rfl, rfl, _, rfl, ?_⟩
    refine first (decide_eq_false (by omega)) ?_
    refine ⟨_, rfl, _, rfl, sz, an, rfl, ⟨_, hsz⟩, ⟨_, han⟩, for_go ps.length (fun k σ H'=>Same H H' ∧ ∃ z3 z4 z5, σ = [some (.int ((j + 1:Nat):Int)), some (.ref sz), some (.ref an), z3, z4, z5]) ⟨Same.refl _, _, _, _, rfl⟩ ?_ ?_ ?_ ?_⟩
    ·rintro i σ H' hi ⟨SS, _⟩
     exact ⟨_, .int ps[i], _, .bl (metB (some j) ps[i]), SS.seq hsz, by simp [hi], SS.seq han, by simp [hi]⟩
    ·rintro σ H' ⟨SS, _⟩
     exact ⟨_, _, SS.seq hsz, SS.seq han, .inl (by rw [List.length_map]; exact Nat.le_refl _)⟩
    ·rintro i σ H' x H2 hi ⟨SS, z3, z4, z5, rfl⟩ ⟨T, x1, y1, hT, rfl, rfl, h1, h2⟩
     have e1:x1 = .int ps[i]:=by
      have:=h1 _ (SS.seq hsz)
      rw [List.getElem?_map, List.getElem?_eq_getElem hi] at this
      exact (Option.some.inj this).symm
     have e2:y1 = .bl (metB (some j) ps[i]):=by
      have:=h2 _ (SS.seq han)
      rw [List.getElem?_map, List.getElem?_eq_getElem hi] at this
      exact (Option.some.inj this).symm
     subst e1 e2
     refine ⟨T, _, rfl, SqT.of upd_same, rfl, _, _, rfl, _, _, rfl, rfl, ?_⟩
     refine ⟨_, rfl, rfl, _, rfl, iteT ⟨_, rfl, _, rfl, _, _, rfl, rfl, ?_⟩⟩
     refine ⟨_, rfl, _, "bool", _, _, rfl, .bl _, kit_bb K, _, rfl, ?_⟩
     refine iteF ?_
     refine ⟨_, rfl, _, rfl, rfl, _, rfl, ?_⟩
     have em:decide (((j + 1:Nat):Int) ≤ (ps[i]:Int)) = metB (some j) ps[i]:=by
      show _ = decide (j < ps[i])
      rw [decide_eq_decide]
      omega
     refine first (by show (!decide (V.bl (metB (some j) ps[i]) = V.bl (decide (((j + 1:Nat):Int) ≤ (ps[i]:Int))))) = false; rw [em, decide_eq_true rfl]; rfl) ?_
     exact ⟨SS.trans (Same.upd hT), _, _, _, rfl⟩
    ·rintro σ H' ⟨SS, z3, z4, z5, rfl⟩
     exact kk H' SS
def AnsK (d:Dd) (v:V) (ps:List Nat) (av:List V):Prop:=match d with
 | .ask _ _=>∃ s, v = spotA s ∧ av = ps.map fun p=>.bl (metB s p)
 | .rest _=>∃ i:Int, v = .int i ∧ av = ps.map fun _=>.int i
 | .drop _=>∃ b:Bool, v = .bl b ∧ atI av (-1) = some (.bl b)
def spAnsw (K:PySem.W.Frag):Sp:=fun vs H Q _=>∃ (q:Addr) (d:Dd) (v:V) (sz an:Addr) (ps:List Nat) (av:List V), vs = [.ref q, v, .ref sz, .ref an] ∧ H q = some (.tup (Dd.v d)) ∧ SqL K H sz (sizesV ps) ∧ SqL K H an av ∧ ps.length ≤ 100 ∧ AnsK d v ps av ∧ ∀ H', Same H H' -> Q (.bl true) H'
theorem scAnsw:FnScope ["_law_deed_here", "_law_found", "_law_sizes", "_law_answers_here"] ["_law_deed_here", "_law_found", "_law_sizes", "_law_answers_here"] (defScope sAnsw):=⟨rfl, rfl, rfl, by decide +kernel, rfl, by decide +kernel, by decide +kernel⟩
theorem ok_answ {f gw gd:Addr} (F:FunB K "_law_answers" "_law_answers" sAnsw f ["_law_deed_here", "_law_found", "_law_sizes", "_law_answers_here"]) (B:Blt mg) (Gw:FnP P w K mg base 1 gw ["_law_found"] spLWhole) (hgw:mg "_law_whole" = some (.ref gw)) (Gd:FnP P w K mg base 3 gd ["_law_found", "_law_sizes", "_law_answers_here"] (spDepth K)) (hgd:mg "_law_depth_fits" = some (.ref gd)):FnP P w K mg base 5 f ["_law_deed_here", "_law_found", "_law_sizes", "_law_answers_here"] (spAnsw K):=by
 refine F.ok scAnsw (fun vs H Q E h=>?_) (fun cdv A outer s H vs Q E hr h=>?_)
 ·obtain ⟨q, d, v, sz, an, ps, av, rfl, _⟩:=h
  rfl
 ·obtain ⟨q, d, v, sz, an, ps, av, rfl, hq, hsz, han, few, hd, kk⟩:=h
  refine ⟨_, pss_cons (ps_if (pt_cmpR op_eq (pe_ix ix_tup (pv 0) pe_int (fun _ _=>rfl)) pe_str (nomark _)) (pss_one (ps_ret (pe_callP Gd (hr.mono (by decide)) hgd (pa_cons (pv 1) (pa_cons (pv 2) (pa_cons (pv 3) pa_nil)))))) pss_nil)
   (pss_cons (ps_if (pt_cmpR op_eq (pe_ix ix_tup (pv 0) pe_int (fun _ _=>rfl)) pe_str (nomark _)) (pss_one (ps_ret (pe_and (pe_isi B.isi B.bool (pv 1) PyProof.Rows.boot_bool) (pe_one (pe_cmpR op_eq (pv 1) (pe_ix ix_list (pv 3) (pe_un un_neg pe_int) (fun _ _=>rfl)) (nomark _)))))) pss_nil)
   (pss_one (ps_ret (pe_and (pe_callP Gw (hr.mono (by decide)) hgw (pa_cons (pv 1) pa_nil)) (pe_one (pe_callB (call_all rfl) rfl B.all_ PyProof.Rows.boot_all (pa_cons
     (pe_lc (N':=["_law_answer", "_law_found"]) (cap:=[none, some 1]) rfl rfl (pi_list (pv 3)) (fun _ _ _ _ _=>pg_name (i:=0) (by decide +kernel:(["_law_answer", "_law_found"]:List Str).Nodup) rfl (Or.inl rfl)) (fun _ _ _ _ _=>pts_nil)
       (fun _ _ _ _ _=>pe_and (pe_callP Gw (hr.mono (by decide)) hgw (pa_cons (pv 0) pa_nil)) (pe_one (pe_cmpR op_eq (pv 0) (pv 1) (nomark _))))) pa_nil))))))), ?_⟩
  cases d with
  | ask n w=>
    obtain ⟨s', rfl, rfl⟩:=hd
    refine ⟨_, rfl, q, _, _, _, rfl, rfl, SqT.of hq, rfl, rfl, _, rfl, ?_⟩
    refine iteT ?_
    exact ⟨_, rfl, _, rfl, _, rfl, s', sz, an, ps, rfl, hsz, han, kk⟩
  | drop n=>
    obtain ⟨b, rfl, hb⟩:=hd
    refine ⟨_, rfl, q, _, _, _, rfl, rfl, SqT.of hq, rfl, rfl, _, rfl, ?_⟩
    refine iteF ?_
    refine ⟨_, rfl, q, _, _, _, rfl, rfl, SqT.of hq, rfl, rfl, _, rfl, ?_⟩
    refine iteT ?_
    refine ⟨_, rfl, _, "bool", _, _, rfl, .bl _, kit_bb K, true, rfl, ?_⟩
    refine iteT ?_
    refine ⟨_, rfl, _, rfl, _, rfl, an, _, _, _, rfl, rfl, han, hb, rfl, ?_⟩
    rw [decide_eq_true rfl]
    exact kk H (Same.refl _)
  | rest z=>
    obtain ⟨i, rfl, rfl⟩:=hd
    refine ⟨_, rfl, q, _, _, _, rfl, rfl, SqT.of hq, rfl, rfl, _, rfl, ?_⟩
    refine iteF ?_
    refine ⟨_, rfl, q, _, _, _, rfl, rfl, SqT.of hq, rfl, rfl, _, rfl, ?_⟩
    refine iteF ?_
    refine ⟨_, rfl, i, rfl, true, rfl, ?_⟩
    refine iteT ?_
    refine ⟨_, rfl, an, rfl, ⟨_, han⟩, ?_⟩
    have hle:ps.length ≤ sizeLine:=Nat.le_trans few (by decide)
    refine lc_go ps.length (fun k ys σ' H'=>ys = List.replicate k (V.bl true) ∧ H' = H ∧ ∃ v, σ' = [v, some (.int i)]) ⟨rfl, rfl, none, rfl⟩ hle ?_ ?_ ?_ ?_
    ·rintro k ys σ' H' hk ⟨_, rfl, _⟩
     exact ⟨_, .int i, han, by simp [hk]⟩
    ·rintro ys σ' H' ⟨_, rfl, _⟩
     exact ⟨_, han, by rw [List.length_map]; exact Nat.le_refl _⟩
    ·rintro k ys σ' H' v H2 hk hl' ⟨rfl, rfl, w', rfl⟩ ⟨rfl, hy⟩
     have hv:v = .int i:=by
      have:=hy _ han
      rw [List.getElem?_map, List.getElem?_eq_getElem hk] at this
      exact (Option.some.inj this).symm
     subst hv
     refine ⟨_, rfl, i, rfl, true, rfl, ?_⟩
     refine iteT ?_
     refine ⟨_, rfl, _, rfl, rfl, ?_⟩
     refine lcYes hk hl' hle ⟨?_, rfl, _, rfl⟩
     rw [decide_eq_true rfl, List.replicate_succ']
    ·rintro ys σ' H' ⟨rfl, rfl, w', rfl⟩ p hp
     refine ⟨p, List.replicate ps.length true, rfl, SqL.of ?_, ?_⟩
     ·rw [upd_same, List.map_replicate]
     ·rw [show (List.replicate ps.length true).all id = true by simp]
      exact kk _ (Same.upd hp)
end
end Lk

namespace Lk
open PySem L2
theorem op_in_seqC {X:Cx} {K:PySem.W.Frag} (h:X.K = K):OpR X (compareOp .In) (rIn K false):=h ▸ op_in_seq
theorem strs_flat (xs:List Str):(xs.map V.str).all flatV = true:=by
 rw [List.all_eq_true]
 intro x hx
 obtain ⟨n, _, rfl⟩:=List.mem_map.mp hx
 rfl
theorem inV_strs {n:Str}:∀ {xs:List Str}, inV (.str n) (xs.map V.str) = decide (n ∈ xs)
 | []=>by unfold inV; simp
 | x :: r=>by
   have ih:=inV_strs (n:=n) (xs:=r)
   unfold inV at ih ⊢
   rw [List.map_cons, List.any_cons, ih]
   show (eqV (.str x) (.str n) || _) = _
   rw [show eqV (.str x) (.str n) = decide (x = n) from by first | rfl | simp [eqV] | (unfold eqV; rfl)]
   by_cases e:x = n
   ·rw [decide_eq_true e, Bool.true_or, decide_eq_true (by rw [e]; exact List.mem_cons_self)]
   ·rw [decide_eq_false e, Bool.false_or]
    by_cases h:n ∈ r
    ·rw [decide_eq_true h, decide_eq_true (List.mem_cons_of_mem _ h)]
    ·rw [decide_eq_false h, decide_eq_false (fun z=>by rcases List.mem_cons.mp z with z | z; exact e z.symm; exact h z)]
theorem tr_last {L:Line} (h:Tr L) (hne:L ≠ []):∃ m, atI (lineV L) (-1) = some (.str m):=by
 obtain ⟨L0, x, rfl⟩:∃ L0 x, L = L0 ++ [x]:=⟨L.dropLast, L.getLast hne, (List.dropLast_concat_getLast hne).symm⟩
 cases x with
 | none=>
   unfold Tr at h
   rw [trim_snoc_none] at h
   have:=trim_len L0
   rw [h, List.length_append, List.length_singleton] at this
   omega
 | some m=>
   refine ⟨m, ?_⟩
   unfold atI ixN
   have hl:(lineV (L0 ++ [some m])).length = L0.length + 1:=by rw [List.length_map, List.length_append]; rfl
   rw [hl, if_neg (by decide), if_pos (by omega)]
   show (lineV (L0 ++ [some m]))[(-1 + ((L0.length + 1:Nat):Int)).toNat]? = _
   rw [show (-1 + ((L0.length + 1:Nat):Int)).toNat = L0.length by omega]
   unfold lineV
   rw [List.getElem?_map, List.getElem?_append_right (Nat.le_refl _), Nat.sub_self]
   rfl
theorem ite_false {c:Bool} {A B:Prop} (h:c = false) (b:B):if c = true then A else B:=by subst h; exact iteF b
theorem ite_true {c:Bool} {A B:Prop} (h:c = true) (a:A):if c = true then A else B:=by subst h; exact iteT a
section
variable {P:Program} {w:World} {K:PySem.W.Frag} {mg:Str -> Option Value} {base:Heap} {C:Addr}
structure LineOk (ns:List Str) (L:Line):Prop where
 tr:Tr L
 nd:ND L
 few:L.length ≤ 1000
 nm:∀ m ∈ somes L, m ∈ ns
def spSpotsFit (C:Addr) (K:PySem.W.Frag):Sp:=fun vs H Q _=>∃ (κ:Kd ShS) (S:BS) (t:ShS) (sp nl:Addr) (L:Line) (p:Nat) (ns:List Str), (shelves C).is κ ∧ vs = [.ref sp, .ref κ.p, .int p, .ref nl] ∧ BookAt κ S t H ∧ Sortable S t.stand ∧ H sp = some (.lst (lineV L)) ∧ SqL K H nl (ns.map V.str) ∧ ns.length ≤ 30 ∧ LineOk ns L ∧ Std L p t ∧
 ∀ H', Same H H' -> Q (.bl true) H'
theorem scSpotsFit:FnScope ["_law_spots", "_law_shelf", "_law_places", "_law_names_here", "_law_some"] ["_law_spots", "_law_shelf", "_law_places", "_law_names_here"] (defScope sSpotsFit):=⟨rfl, rfl, rfl, by decide +kernel, rfl, by decide +kernel, by decide +kernel⟩
theorem nodup_sub {xs ns:List Str} (nd:xs.Nodup) (h:∀ x ∈ xs, x ∈ ns) (hl:ns.length ≤ 30):xs.length ≤ 30:=by
 have:=PySem.length_le_of_nodup_of_subset _ _ nd h
 omega
set_option maxHeartbeats 4000000 in
theorem ok_spotsFit {f gn:Addr} (F:FunB K "_law_spots_fit" "_law_spots_fit" sSpotsFit f ["_law_spots", "_law_shelf", "_law_places", "_law_names_here"]) (B:Blt mg) (bset:mg "set" = none) (T:STxt K C) (Gn:FnP P w K mg base 8 gn ["self"] (spSNames C)) (Mn:Meth K C "names" gn) :
  FnP P w K mg base 10 f ["_law_spots", "_law_shelf", "_law_places", "_law_names_here"] (spSpotsFit C K):=by
 refine F.ok scSpotsFit (fun vs H Q E h=>?_) (fun cdv A outer s H vs Q E hr h=>?_)
 ·obtain ⟨κ, S, t, sp, nl, L, p, ns, _, rfl, _⟩:=h
  rfl
 ·obtain ⟨κ, S, t, sp, nl, L, p, ns, hκ, rfl, B1, hs, hsp, hnl, h30, ok, st, kk⟩:=h
  have O:=(shelves C).ok κ hκ
  have hC:=(shelves C).cls κ hκ
  have hu:=Nat.lt_of_succ_lt (hu_of hr)
  have hle:L.length ≤ sizeLine:=Nat.le_trans ok.few (by decide)
  have ndS:=nodup_somes ok.nd
  have l30:=nodup_sub ndS ok.nm h30
  refine ⟨_, pss_cons (ps_join (ps_if (PW.pt (pw_or (pt_not (pt_val (pe_isi B.isi B.list (pv 0) PyProof.Rows.boot_list))) (pw_or1 (PW.pt (pw_and (pt_cmpR op_gt (pe_callB call_len_seq rfl B.len PySem.boot_len (pa_cons (pv 0) pa_nil)) pe_int (nomark _)) (pw_and1 (pt_cmpR op_isN (pe_ix ix_list (pv 0) (pe_un un_neg pe_int) (fun _ _=>rfl)) pe_non (nomark _)))))))) (pss_one (ps_ret pe_bl)) pss_nil))
   (pss_cons (ps_setlc (g:=gName 0) (i:=4) (N':=["_law_name"]) (cap:=[none]) scSpotsFit.nd rfl rfl rfl rfl (pi_list (pv 0)) (fun _ _ _ _ _=>pg_name (i:=0) (by decide +kernel:(["_law_name"]:List Str).Nodup) rfl (Or.inl rfl)) (fun _ _ _ _ _=>pts_one (pt_cmpR op_notN (pv 0) pe_non (nomark _))) (fun _ _ _ _ _=>pv 0) rfl)
   (pss_cons (ps_if (PW.pt (pw_or (pt_cmpR op_ne (pe_callB (call_lenStC (P:=P) (w:=w) rfl rfl) rfl B.len PySem.boot_len (pa_cons (pe_callTy (call_setSC (P:=P) (w:=w) rfl rfl rfl) rfl bset PyProof.Rows.boot_set (pa_cons (pv 4) pa_nil)) pa_nil)) (pe_callB call_len_seq rfl B.len PySem.boot_len (pa_cons (pv 4) pa_nil)) (nomark _)) (pw_or1 (pt_not (pt_val (pe_callB (call_all rfl) rfl B.all_ PyProof.Rows.boot_all (pa_cons
      (pe_lc (N':=["_law_name", "_law_names_here"]) (cap:=[none, some 3]) rfl rfl (pi_list (pv 4)) (fun _ _ _ _ _=>pg_name (i:=0) (by decide +kernel:(["_law_name", "_law_names_here"]:List Str).Nodup) rfl (Or.inl rfl)) (fun _ _ _ _ _=>pts_nil)
        (fun _ _ _ _ _=>pe_cmpR (op_in_seqC (K:=K) rfl) (pv 0) (pv 1) rfl)) pa_nil))))))) (pss_one (ps_ret pe_bl)) pss_nil)
   (pss_one (ps_ret (pe_cmpR (op_eqL hu) (pe_callB (call_sortedS rfl) rfl B.sorted PyProof.Rows.boot_sorted (pa_cons
      (pe_lc (N':=["_law_name"]) (cap:=[none]) rfl rfl (pi_list (pe_slice sl_list (pv 0) po_none (po_some (pv 2)))) (fun _ _ _ _ _=>pg_name (i:=0) (by decide +kernel:(["_law_name"]:List Str).Nodup) rfl (Or.inl rfl)) (fun _ _ _ _ _=>pts_one (pt_cmpR op_notN (pv 0) pe_non (nomark _))) (fun _ _ _ _ _=>pv 0)) pa_nil))
      (pe_callB (call_sortedS rfl) rfl B.sorted PyProof.Rows.boot_sorted (pa_cons (pe_methP0 (pv 1) T.cl Mn Gn (hr.mono (by decide))) pa_nil)) (nomark _)))))), ?_⟩
  refine ⟨fun σ H'=>H = H' ∧ σ = [some (.ref sp), some (.ref κ.p), some (.int p), some (.ref nl), none], ?_, ?_⟩
  ·refine ⟨_, rfl, _, "list", _, _, rfl, .lst hsp, kit_ll K, _, rfl, ?_⟩
   refine iteF ?_
   refine ⟨_, rfl, sp, _, rfl, .inl (SqL.of hsp), _, _, rfl, rfl, _, rfl, ?_⟩
   by_cases hne:L = []
   ·refine ite_false (decide_eq_false (by rw [hne]; exact Int.lt_irrefl _)) ?_
    refine iteF ?_
    exact ⟨rfl, rfl⟩
   ·have hpos:0 < L.length:=List.length_pos_iff.mpr hne
    refine ite_true (decide_eq_true (by rw [List.length_map]; omega)) ?_
    obtain ⟨m, hm⟩:=tr_last ok.tr hne
    refine ⟨_, rfl, _, rfl, sp, _, _, _, rfl, rfl, SqL.of hsp, hm, rfl, _, rfl, ?_⟩
    refine iteF ?_
    exact ⟨rfl, rfl⟩
  rintro σ H' ⟨rfl, rfl⟩
  refine ⟨_, rfl, sp, rfl, ⟨_, SqL.of hsp⟩, ?_⟩
  refine lc_go L.length (fun i ys σ' H'=>ys = (somes (L.take i)).map V.str ∧ H' = H ∧ ∃ v, σ' = [v]) ⟨rfl, rfl, none, rfl⟩ hle ?_ ?_ ?_ ?_
  ·rintro i ys σ' H' hi ⟨_, rfl, _⟩
   exact ⟨_, optS L[i], SqL.of hsp, by simp [hi]⟩
  ·rintro ys σ' H' ⟨_, rfl, _⟩
   exact ⟨_, SqL.of hsp, by rw [List.length_map]; exact Nat.le_refl _⟩
  ·rintro i ys σ' H' v H2 hi hl ⟨rfl, rfl, w', rfl⟩ ⟨rfl, hy⟩
   have hv:v = optS L[i]:=by
    have:=hy _ (SqL.of hsp)
    rw [List.getElem?_map, List.getElem?_eq_getElem hi] at this
    exact (Option.some.inj this).symm
   subst hv
   refine ⟨_, rfl, rfl, _, rfl, ?_⟩
   have e:=somes_take_succ hi
   cases hq:L[i] with
   | none=>
     rw [hq] at e
     refine iteF ?_
     exact lcNo hi hl ⟨by rw [e, List.append_nil], rfl, _, rfl⟩
   | some n=>
     rw [hq] at e
     refine iteT ?_
     refine ⟨_, rfl, ?_⟩
     exact lcYes hi hl hle ⟨by rw [e, List.map_append]; rfl, rfl, _, rfl⟩
  rintro ys σ' H' ⟨rfl, rfl, w', rfl⟩ so hso
  rw [List.take_length]
  have S1:Same H' (upd H' so (.lst ((somes L).map V.str))):=Same.upd hso
  have h4:(upd H' so (.lst ((somes L).map V.str))) so = some (.lst ((somes L).map V.str)):=upd_same
  have hsp1:=S1 _ _ hsp
  have hnl1:=S1.seq hnl
  have B2:=B1.same O S1
  generalize upd H' so (.lst ((somes L).map V.str)) = H1 at S1 h4 hsp1 hnl1 B2 ⊢
  clear hsp hnl B1
  refine ⟨_, rfl, so, somes L, rfl, SqL.of h4, ndS, by omega, fun sl hsl=>?_⟩
  have S2:Same H1 (upd H1 sl (setN P w sl (somes L).length)):=Same.upd hsl
  refine ⟨sl, (somes L).length, rfl, upd_same, by omega, _, rfl, so, _, rfl, .inl (SqL.of (S2 _ _ h4)), rfl, _, rfl, ?_⟩
  rw [List.length_map, decide_eq_true rfl]
  refine iteF ?_
  have h42:=S2 _ _ h4
  have hsp2:=S2 _ _ hsp1
  have hnl2:=S2.seq hnl1
  have B3:=B2.same O S2
  have S12:=S1.trans S2
  generalize upd H1 sl (setN P w sl (somes L).length) = H2 at S2 h42 hsp2 hnl2 B3 S12 ⊢
  clear hsp1 hnl1 B2 h4 S1 S2
  refine ⟨_, rfl, so, rfl, ⟨_, SqL.of h42⟩, ?_⟩
  have hle2:(somes L).length ≤ sizeLine:=Nat.le_trans (show (somes L).length ≤ 30 from l30) (by decide)
  refine lc_go (somes L).length (fun i ys σ' H'=>ys = List.replicate i (V.bl true) ∧ H' = H2 ∧ ∃ v, σ' = [v, some (.ref nl)]) ⟨rfl, rfl, none, rfl⟩ hle2 ?_ ?_ ?_ ?_
  ·rintro i ys σ' H' hi ⟨_, rfl, _⟩
   exact ⟨_, .str (somes L)[i], SqL.of h42, by simp [hi]⟩
  ·rintro ys σ' H' ⟨_, rfl, _⟩
   exact ⟨_, SqL.of h42, by rw [List.length_map]; exact Nat.le_refl _⟩
  ·rintro i ys σ' H' v H3 hi hl' ⟨rfl, rfl, w', rfl⟩ ⟨rfl, hy⟩
   have hv:v = .str (somes L)[i]:=by
    have:=hy _ (SqL.of h42)
    rw [List.getElem?_map, List.getElem?_eq_getElem hi] at this
    exact (Option.some.inj this).symm
   subst hv
   refine ⟨_, rfl, _, rfl, nl, _, rfl, .inl hnl2, rfl, strs_flat ns, ?_⟩
   rw [if_neg Bool.false_ne_true, inV_strs, decide_eq_true (ok.nm _ (List.getElem_mem hi))]
   refine lcYes hi hl' hle2 ⟨?_, rfl, _, rfl⟩
   rw [List.replicate_succ']
  rintro ys σ' H' ⟨rfl, rfl, w', rfl⟩ al hal
  have S3:Same H' (upd H' al (.lst (List.replicate (somes L).length (V.bl true)))):=Same.upd hal
  refine ⟨al, List.replicate (somes L).length true, rfl, SqL.of (by rw [upd_same, List.map_replicate]), ?_⟩
  rw [show (List.replicate (somes L).length true).all id = true by simp]
  refine ⟨true, rfl, ?_⟩
  refine iteF ?_
  have hsp3:=S3 _ _ hsp2
  have B4:=B3.same O S3
  have S13:=S12.trans S3
  generalize upd H' al (.lst (List.replicate (somes L).length (V.bl true))) = H3 at S3 hsp3 B4 S13 ⊢
  clear hsp2 hnl2 B3 h42 S3 S12 hal
  refine ⟨_, rfl, _, rfl, _, rfl, sp, _, rfl, SqL.of hsp3, fun ct hct=>?_⟩
  rw [cut_frontT, ← List.map_take]
  have S4:Same H3 (upd H3 ct (.lst (lineV (L.take p)))):=Same.upd hct
  have h5:(upd H3 ct (.lst (lineV (L.take p)))) ct = some (.lst (lineV (L.take p))):=upd_same
  have B5:=B4.same O S4
  have S14:=S13.trans S4
  generalize upd H3 ct (.lst (lineV (L.take p))) = H4 at S4 h5 B5 S14 ⊢
  clear B4 S13 hsp3 S4
  refine ⟨ct, rfl, ⟨_, SqL.of h5⟩, ?_⟩
  have hlt:(L.take p).length ≤ sizeLine:=Nat.le_trans (by rw [List.length_take]; exact Nat.min_le_right ..) hle
  refine lc_go (L.take p).length (fun i ys σ' H'=>ys = (somes ((L.take p).take i)).map V.str ∧ H' = H4 ∧ ∃ v, σ' = [v]) ⟨rfl, rfl, none, rfl⟩ hlt ?_ ?_ ?_ ?_
  ·rintro i ys σ' H' hi ⟨_, rfl, _⟩
   exact ⟨_, optS (L.take p)[i], SqL.of h5, by rw [List.getElem?_map, List.getElem?_eq_getElem hi]; rfl⟩
  ·rintro ys σ' H' ⟨_, rfl, _⟩
   exact ⟨_, SqL.of h5, by rw [List.length_map]; exact Nat.le_refl _⟩
  ·rintro i ys σ' H' v H2 hi hl ⟨rfl, rfl, w', rfl⟩ ⟨rfl, hy⟩
   have hv:v = optS (L.take p)[i]:=by
    have:=hy _ (SqL.of h5)
    rw [List.getElem?_map, List.getElem?_eq_getElem hi] at this
    exact (Option.some.inj this).symm
   subst hv
   refine ⟨_, rfl, rfl, _, rfl, ?_⟩
   have e:=somes_take_succ hi
   cases hq:(L.take p)[i] with
   | none=>
     rw [hq] at e
     refine iteF ?_
     exact lcNo hi hl ⟨by rw [e, List.append_nil], rfl, _, rfl⟩
   | some n=>
     rw [hq] at e
     refine iteT ?_
     refine ⟨_, rfl, ?_⟩
     exact lcYes hi hl hlt ⟨by rw [e, List.map_append]; rfl, rfl, _, rfl⟩
  rintro ys σ' H' ⟨rfl, rfl, w', rfl⟩ la hla
  rw [List.take_length]
  have S5:Same H' (upd H' la (.lst ((somes (L.take p)).map V.str))):=Same.upd hla
  have h6:(upd H' la (.lst ((somes (L.take p)).map V.str))) la = some (.lst ((somes (L.take p)).map V.str)):=upd_same
  have B6:=B5.same O S5
  have S15:=S14.trans S5
  generalize upd H' la (.lst ((somes (L.take p)).map V.str)) = H5 at S5 h6 B6 S15 ⊢
  clear B5 S14 h5 S5 hct hla
  have ndT:=nodup_somes (ndTake (p:=p) ok.nd)
  have l30T:=nodup_sub ndT (fun x hx=>ok.nm x (mem_somes.mpr (by obtain ⟨i, _, z⟩:=mem_somes_take.mp hx; exact ⟨i, z⟩))) h30
  refine ⟨_, somes (L.take p), rfl, ⟨la, rfl, .inl (SqL.of h6)⟩, by omega, ndT, fun qs D pm pw hD=>?_⟩
  have S6:Same H5 (upd H5 D (.lst (qs.map V.str))):=Same.upd hD
  have h7:(upd H5 D (.lst (qs.map V.str))) D = some (.lst (qs.map V.str)):=upd_same
  have B7:=B6.same O S6
  have S16:=S15.trans S6
  generalize upd H5 D (.lst (qs.map V.str)) = H6 at S6 h7 B7 S16 ⊢
  clear B6 S15 h6 S6 hD
  obtain ⟨dx, g1⟩:=id B7.ob
  rw [hC] at g1
  refine ⟨_, rfl, κ.p, dx, _, rfl, g1, B7.fno O (by decide +kernel) (by decide +kernel), κ, S, t, hκ, rfl, B7, hs, fun l H7 ys hl S7 hl7 wk=>?_⟩
  have ndY:ys.Nodup:=wk.1.nodup_iff.mpr hs.nd
  have hyl:ys.length < 64:=by rw [wk.1.length_eq]; exact hs.few
  refine ⟨_, ys, rfl, ⟨l, rfl, .inl (SqL.of hl7)⟩, hyl, ndY, fun qs2 D2 pm2 pw2 hD2=>?_⟩
  have S8:Same H7 (upd H7 D2 (.lst (qs2.map V.str))):=Same.upd hD2
  have eq:qs = qs2:=sorted_uniq pw pw2 fun z=>by
   rw [pm.mem_iff, pm2.mem_iff, wk.1.mem_iff, mem_somes_take]
   exact (st.1 z).symm
  refine ⟨D, D2, _, _, rfl, rfl, SqL.of (S8 _ _ (S7 _ _ h7)), SqL.of upd_same, strs_flat _, strs_flat _, ?_⟩
  rw [if_neg Bool.false_ne_true, eqVs_strs, decide_eq_true eq]
  exact kk _ ((S16.trans S7).trans S8)
end
end Lk

namespace Lk
open PySem L2
theorem inP_all {L:Line} {p:Nat} (h:L.length ≤ p) {m:Str}:InP L p m ↔ m ∈ somes L:=by
 rw [mem_somes]
 exact ⟨fun ⟨i, _, z⟩=>⟨i, z⟩, fun ⟨i, z⟩=>⟨i, Nat.lt_of_lt_of_le (has_lt z) h, z⟩⟩
theorem same_fresh {H H':Hp} {l:Addr} {o:HO} (s:Same H H') (h:H l = none):Same H (upd H' l o):=fun b u e=>by rw [upd_ne (ne_of_none e h)]; exact s _ _ e
section
variable {P:Program} {w:World} {K:PySem.W.Frag} {mg:Str -> Option Value} {base:Heap} {CR CS:Addr}
structure RG (P:Program) (w:World) (K:PySem.W.Frag) (mg:Str -> Option Value) (base:Heap) (C:Addr) where
 anames:Addr
 names:FnP P w K mg base 10 anames ["self"] (spRNames C)
 Mnames:Meth K C "names" anames
 atime:Addr
 time:FnP P w K mg base 1 atime ["self"] (spTime (rows C))
 Mtime:Meth K C "time_now" atime
 adeeds:Addr
 deeds:FnP P w K mg base 1 adeeds ["self"] (spDeeds (rows C))
 Mdeeds:Meth K C "deeds_done" adeeds
 acount:Addr
 count:FnP P w K mg base 4 acount ["self", "name"] (spCountOf (rows C))
 Mcount:Meth K C "count_of" acount
 alast:Addr
 last:FnP P w K mg base 4 alast ["self", "name"] (spLastOf (rows C))
 Mlast:Meth K C "last_of" alast
 aspots:Addr
 spots:FnP P w K mg base 1 aspots ["self"] (spSpots C)
 Mspots:Meth K C "spots" aspots
 anamesAt:Addr
 namesAt:FnP P w K mg base 10 anamesAt ["self", "places"] (spNamesAt C)
 MnamesAt:Meth K C "names_at" anamesAt
structure SG (P:Program) (w:World) (K:PySem.W.Frag) (mg:Str -> Option Value) (base:Heap) (C:Addr) where
 anames:Addr
 names:FnP P w K mg base 8 anames ["self"] (spSNames C)
 Mnames:Meth K C "names" anames
 atime:Addr
 time:FnP P w K mg base 1 atime ["self"] (spTime (shelves C))
 Mtime:Meth K C "time_now" atime
 adeeds:Addr
 deeds:FnP P w K mg base 1 adeeds ["self"] (spDeeds (shelves C))
 Mdeeds:Meth K C "deeds_done" adeeds
 acount:Addr
 count:FnP P w K mg base 4 acount ["self", "name"] (spCountOf (shelves C))
 Mcount:Meth K C "count_of" acount
 alast:Addr
 last:FnP P w K mg base 4 alast ["self", "name"] (spLastOf (shelves C))
 Mlast:Meth K C "last_of" alast
def spLikeBook (CR CS:Addr):Sp:=fun vs H Q _=>∃ (κr:Kd RoS) (κs:Kd ShS) (S:BS) (tr:RoS) (ts:ShS) (n:Str), (rows CR).is κr ∧ (shelves CS).is κs ∧ vs = [.ref κr.p, .ref κs.p, .str n] ∧ BookAt κr S tr H ∧ BookAt κs S ts H ∧ GoodName n ∧ Sortable S (somes tr.line) ∧ Sortable S ts.stand ∧ tr.line.length ≤ 1000 ∧ Std tr.line 1000 ts ∧
 ∀ H', Same H H' -> Q (.bl true) H'
theorem scLikeBook:FnScope ["_law_row", "_law_shelf", "_law_name", "_law_found"] ["_law_row", "_law_shelf", "_law_name"] (defScope sLikeBook):=⟨rfl, rfl, rfl, by decide +kernel, rfl, by decide +kernel, by decide +kernel⟩
theorem row_get {κ:Kd RoS} {S:BS} {t:RoS} {H:Hp} (hκ:(rows CR).is κ) (B:BookAt κ S t H):∃ dx, H κ.p = some (.ins CR dx (fldsB S κ.dc κ.dl (κ.ex t))):=by
 obtain ⟨dx, h⟩:=B.ob
 rw [(rows CR).cls κ hκ] at h
 exact ⟨dx, h⟩
theorem shelf_get {κ:Kd ShS} {S:BS} {t:ShS} {H:Hp} (hκ:(shelves CS).is κ) (B:BookAt κ S t H):∃ dx, H κ.p = some (.ins CS dx (fldsB S κ.dc κ.dl (κ.ex t))):=by
 obtain ⟨dx, h⟩:=B.ob
 rw [(shelves CS).cls κ hκ] at h
 exact ⟨dx, h⟩
set_option maxHeartbeats 4000000 in
theorem ok_likeBook {f:Addr} (F:FunB K "_law_like_book" "_law_like_book" sLikeBook f ["_law_row", "_law_shelf", "_law_name"]) (TR:RTxt K CR) (TS:STxt K CS) (R:RG P w K mg base CR) (G:SG P w K mg base CS):FnP P w K mg base 12 f ["_law_row", "_law_shelf", "_law_name"] (spLikeBook CR CS):=by
 refine F.ok scLikeBook (fun vs H Q E h=>?_) (fun cdv A outer s H vs Q E hr h=>?_)
 ·obtain ⟨κr, κs, S, tr, ts, n, _, _, rfl, _⟩:=h
  rfl
 ·obtain ⟨κr, κs, S, tr, ts, n, hκr, hκs, rfl, Br, Bs, gn, sr, ss, fl, st, kk⟩:=h
  have Or':=(rows CR).ok κr hκr
  have Os:=(shelves CS).ok κs hκs
  have hu:=Nat.lt_of_succ_lt (hu_of hr)
  have Br0:=Br
  have Bs0:=Bs
  refine ⟨_, pss_cons (ps_set (i:=3) scLikeBook.nd rfl (Or.inl rfl) (pe_methP0 (pv 0) TR.cl R.Mnames R.names (hr.mono (by decide))))
   (pss_cons (ps_if (PW.pt (pw_or (pt_cmpR (op_neL hu) (pv 3) (pe_methP0 (pv 1) TS.cl G.Mnames G.names (hr.mono (by decide))) (nomark _)) (pw_or (pt_cmpR op_ne (pe_methP0 (pv 0) TR.cl R.Mtime R.time (hr.mono (by decide))) (pe_methP0 (pv 1) TS.cl G.Mtime G.time (hr.mono (by decide))) (nomark _)) (pw_or1 (pt_cmpR op_ne (pe_methP0 (pv 0) TR.cl R.Mdeeds R.deeds (hr.mono (by decide))) (pe_methP0 (pv 1) TS.cl G.Mdeeds G.deeds (hr.mono (by decide))) (nomark _)))))) (pss_one (ps_ret pe_bl)) pss_nil)
   (pss_cons (ps_expr (pe_bm0 PySem.F.plainAttrs_list PySem.F.slot_list_clear PySem.F.type_list_clear mt_clear (pv 3)))
   (pss_one (ps_ret (pe_and (pe_cmpR op_eq (pe_methP (pv 0) TR.cl R.Mcount R.count (hr.mono (by decide)) (pa_cons (pv 2) pa_nil)) (pe_methP (pv 1) TS.cl G.Mcount G.count (hr.mono (by decide)) (pa_cons (pv 2) pa_nil)) (nomark _)) (pe_one (pe_cmpR op_eq (pe_methP (pv 0) TR.cl R.Mlast R.last (hr.mono (by decide)) (pa_cons (pv 2) pa_nil)) (pe_methP (pv 1) TS.cl G.Mlast G.last (hr.mono (by decide)) (pa_cons (pv 2) pa_nil)) (nomark _)))))))), ?_⟩
  obtain ⟨dr, gr⟩:=row_get hκr Br
  refine ⟨_, rfl, κr.p, dr, _, rfl, gr, Br.fno Or' (by decide +kernel) (by decide +kernel), κr, S, tr, hκr, rfl, Br, sr, fun l1 H1 y1 hl1 S1 g1 wk1=>?_⟩
  have Br:=Br.same Or' S1
  have Bs:=Bs.same Os S1
  obtain ⟨dr, gr⟩:=row_get hκr Br
  obtain ⟨ds, gs⟩:=shelf_get hκs Bs
  refine ⟨_, rfl, _, rfl, κs.p, ds, _, rfl, gs, Bs.fno Os (by decide +kernel) (by decide +kernel), κs, S, ts, hκs, rfl, Bs, ss, fun l2 H2 y2 hl2 S2 g2 wk2=>?_⟩
  have ey:y1 = y2:=weak_uniq wk1 wk2 fun m=>by
   rw [← inP_all fl]
   exact (st.1 m).symm
  have Br:=Br.same Or' S2
  have Bs:=Bs.same Os S2
  have S12:=S1.trans S2
  have g1:=S2 _ _ g1
  refine ⟨l1, l2, _, _, rfl, rfl, SqL.of g1, SqL.of g2, strs_flat _, strs_flat _, _, rfl, ?_⟩
  rw [if_pos rfl, eqVs_strs, decide_eq_true ey]
  refine iteF ?_
  clear S1 S2 hl2 g2 gr gs dr ds
  obtain ⟨dr, gr⟩:=row_get hκr Br
  obtain ⟨ds, gs⟩:=shelf_get hκs Bs
  refine ⟨_, rfl, κr.p, dr, _, rfl, gr, Br.fno Or' (by decide +kernel) (by decide +kernel), κr, S, tr, hκr, rfl, Br, _, rfl, κs.p, ds, _, rfl, gs, Bs.fno Os (by decide +kernel) (by decide +kernel), κs, S, ts, hκs, rfl, Bs, rfl, _, rfl, ?_⟩
  rw [decide_eq_true rfl]
  refine iteF ?_
  refine ⟨_, rfl, κr.p, dr, _, rfl, gr, Br.fno Or' (by decide +kernel) (by decide +kernel), κr, S, tr, hκr, rfl, Br, _, rfl, κs.p, ds, _, rfl, gs, Bs.fno Os (by decide +kernel) (by decide +kernel), κs, S, ts, hκs, rfl, Bs, rfl, _, rfl, ?_⟩
  rw [decide_eq_true rfl]
  refine iteF ?_
  refine ⟨_, rfl, .inl ⟨rfl, _, SqL.of g1⟩, l1, _, rfl, rfl, g1, ?_⟩
  have S3:Same H (upd H2 l1 (.lst [])):=same_fresh S12 hl1
  clear Br Bs gr gs dr ds
  have Br:=Br0.same Or' S3
  have Bs:=Bs0.same Os S3
  generalize upd H2 l1 (.lst []) = H3 at S3 Br Bs ⊢
  obtain ⟨dr, gr⟩:=row_get hκr Br
  refine ⟨_, rfl, κr.p, dr, _, rfl, gr, Br.fno Or' (by decide +kernel) (by decide +kernel), _, rfl, κr, S, tr, n, hκr, rfl, gn, Br, fun H4 S4=>?_⟩
  have Br:=Br.same Or' S4
  have Bs:=Bs.same Os S4
  obtain ⟨ds, gs⟩:=shelf_get hκs Bs
  refine ⟨_, rfl, κs.p, ds, _, rfl, gs, Bs.fno Os (by decide +kernel) (by decide +kernel), _, rfl, κs, S, ts, n, hκs, rfl, gn, Bs, fun H5 S5=>⟨rfl, _, rfl, ?_⟩⟩
  refine ite_true (decide_eq_true rfl) ?_
  have Br:=Br.same Or' S5
  have Bs:=Bs.same Os S5
  clear gr gs dr ds
  obtain ⟨dr, gr⟩:=row_get hκr Br
  refine ⟨_, rfl, κr.p, dr, _, rfl, gr, Br.fno Or' (by decide +kernel) (by decide +kernel), _, rfl, κr, S, tr, n, hκr, rfl, gn, Br, fun H6 S6=>?_⟩
  have Bs:=Bs.same Os S6
  obtain ⟨ds, gs⟩:=shelf_get hκs Bs
  refine ⟨_, rfl, κs.p, ds, _, rfl, gs, Bs.fno Os (by decide +kernel) (by decide +kernel), _, rfl, κs, S, ts, n, hκs, rfl, gn, Bs, fun H7 S7=>⟨by cases lstE S n <;> rfl, ?_⟩⟩
  rw [decide_eq_true rfl]
  exact kk _ ((((S3.trans S4).trans S5).trans S6).trans S7)
end
end Lk

namespace Lk
open PySem L2
structure Sx where
 κ:Kd ShS
 t:ShS
 p:Nat
abbrev refsV (ks:List Sx):List V:=ks.map fun x=>V.ref x.κ.p
abbrev plOf (ks:List Sx):List Nat:=ks.map fun x=>x.p
structure Shs (CS:Addr) (S:BS) (L:Line) (ks:List Sx) (H:Hp):Prop where
 is:∀ x ∈ ks, (shelves CS).is x.κ
 at_:∀ x ∈ ks, BookAt x.κ S x.t H
 so:∀ x ∈ ks, Sortable S x.t.stand
 std:∀ x ∈ ks, Std L x.p x.t
 pl:∀ x ∈ ks, 1 ≤ x.p ∧ x.p ≤ 1000
 few:ks.length ≤ 100
 last:∃ x ∈ ks, atI (refsV ks) (-1) = some (.ref x.κ.p) ∧ x.p = 1000
section
variable {P:Program} {w:World} {K:PySem.W.Frag} {mg:Str -> Option Value} {base:Heap} {CR CS:Addr}
def spAllFit (CR CS:Addr) (K:PySem.W.Frag):Sp:=fun vs H Q _=>∃ (κr:Kd RoS) (S:BS) (tr:RoS) (ks:List Sx) (sl sz nl:Addr) (ns:List Str), (rows CR).is κr ∧ vs = [.ref κr.p, .ref sl, .ref sz, .ref nl] ∧ BookAt κr S tr H ∧ Shs CS S tr.line ks H ∧ SqL K H sl (refsV ks) ∧ SqL K H sz (sizesV (plOf ks)) ∧ SqL K H nl (ns.map V.str) ∧ ns.length ≤ 30 ∧ LineOk ns tr.line ∧ (∀ q, Sortable S (somes (tr.line.take q))) ∧ Sortable S (somes tr.line) ∧
 ∀ H', Same H H' -> Q (.bl true) H'
theorem scAllFit:FnScope ["_law_row", "_law_shelves", "_law_sizes", "_law_names_here", "_law_shelf", "_law_places", "_law_found"] ["_law_row", "_law_shelves", "_law_sizes", "_law_names_here"] (defScope sAllFit):=⟨rfl, rfl, rfl, by decide +kernel, rfl, by decide +kernel, by decide +kernel⟩
set_option maxHeartbeats 4000000 in
theorem ok_allFit {f gf:Addr} (F:FunB K "_law_all_fit" "_law_all_fit" sAllFit f ["_law_row", "_law_shelves", "_law_sizes", "_law_names_here"]) (B:Blt mg) (bzip:mg "zip" = none) (TR:RTxt K CR) (TS:STxt K CS) (R:RG P w K mg base CR) (G:SG P w K mg base CS)
  (Gf:FnP P w K mg base 10 gf ["_law_spots", "_law_shelf", "_law_places", "_law_names_here"] (spSpotsFit CS K)) (hgf:mg "_law_spots_fit" = some (.ref gf)):FnP P w K mg base 12 f ["_law_row", "_law_shelves", "_law_sizes", "_law_names_here"] (spAllFit CR CS K):=by
 refine F.ok scAllFit (fun vs H Q E h=>?_) (fun cdv A outer s H vs Q E hr h=>?_)
 ·obtain ⟨κr, S, tr, ks, sl, sz, nl, ns, _, rfl, _⟩:=h
  rfl
 ·obtain ⟨κr, S, tr, ks, sl, sz, nl, ns, hκr, rfl, Br, hks, hsl, hsz, hnl, h30, ok, sq, sr, kk⟩:=h
  have Or':=(rows CR).ok κr hκr
  have hu:=Nat.lt_of_succ_lt (hu_of hr)
  refine ⟨_, pss_cons (ps_for PassesOwn.never rfl (pi_zip rfl bzip (pa_cons (pv 1) (pa_cons (pv 2) pa_nil))) (pg_tup rfl (pgs_cons (pg_name (i:=4) scAllFit.nd rfl (Or.inl rfl)) (pgs_cons (pg_name (i:=5) scAllFit.nd rfl (Or.inl rfl)) pgs_nil)))
    (pss_cons (ps_set (i:=6) scAllFit.nd rfl (Or.inl rfl) (pe_methP (pv 0) TR.cl R.MnamesAt R.namesAt (hr.mono (by decide)) (pa_cons (pv 5) pa_nil)))
    (pss_cons (ps_if (PW.pt (pw_or (pt_not (pt_val (pe_isi B.isi B.list (pv 6) PyProof.Rows.boot_list))) (pw_or1 (pt_cmpR (op_neL hu) (pv 6) (pe_methP0 (pv 4) TS.cl G.Mnames G.names (hr.mono (by decide))) (nomark _))))) (pss_one (ps_ret pe_bl)) pss_nil)
    (pss_one (ps_if (pt_not (pt_val (pe_callP Gf (hr.mono (by decide)) hgf (pa_cons (pe_methP0 (pv 0) TR.cl R.Mspots R.spots (hr.mono (by decide))) (pa_cons (pv 4) (pa_cons (pv 5) (pa_cons (pv 3) pa_nil))))))) (pss_one (ps_ret pe_bl)) pss_nil)))))
   (pss_cons (ps_set (i:=6) scAllFit.nd rfl (Or.inl rfl) (pe_methP0 (pv 0) TR.cl R.Mnames R.names (hr.mono (by decide))))
   (pss_one (ps_ret (pe_and (pe_isi B.isi B.list (pv 6) PyProof.Rows.boot_list) (pe_one (pe_cmpR (op_eqL hu) (pv 6) (pe_methP0 (pe_ix ix_list (pv 1) (pe_un un_neg pe_int) (fun _ _=>rfl)) TS.cl G.Mnames G.names (hr.mono (by decide))) (nomark _))))))), ?_⟩
  refine ⟨_, rfl, _, rfl, sl, sz, rfl, ⟨_, hsl⟩, ⟨_, hsz⟩, for_go ks.length (fun k σ H'=>Same H H' ∧ ∃ z4 z5 z6, σ = [some (.ref κr.p), some (.ref sl), some (.ref sz), some (.ref nl), z4, z5, z6]) ⟨Same.refl _, _, _, _, rfl⟩ ?_ ?_ ?_ ?_⟩
  ·rintro i σ H' hi ⟨SS, _⟩
   exact ⟨_, .ref ks[i].κ.p, _, .int ks[i].p, SS.seq hsl, by simp [hi], SS.seq hsz, by simp [hi]⟩
  ·rintro σ H' ⟨SS, _⟩
   exact ⟨_, _, SS.seq hsl, SS.seq hsz, .inl (by rw [List.length_map]; exact Nat.le_refl _)⟩
  ·rintro i σ H' x H2 hi ⟨SS, z4, z5, z6, rfl⟩ ⟨T, x1, y1, hT, rfl, rfl, h1, h2⟩
   have e1:x1 = .ref ks[i].κ.p:=by
    have:=h1 _ (SS.seq hsl)
    rw [List.getElem?_map, List.getElem?_eq_getElem hi] at this
    exact (Option.some.inj this).symm
   have e2:y1 = .int (ks[i].p:Int):=by
    have:=h2 _ (SS.seq hsz)
    rw [List.getElem?_map, List.getElem?_map, List.getElem?_eq_getElem hi] at this
    exact (Option.some.inj this).symm
   subst e1 e2
   have ST:Same H (upd H' T (.tup [.ref ks[i].κ.p, .int (ks[i].p:Int)])):=SS.trans (Same.upd hT)
   have hTt:(upd H' T (.tup [.ref ks[i].κ.p, .int (ks[i].p:Int)])) T = some (.tup [.ref ks[i].κ.p, .int (ks[i].p:Int)]):=upd_same
   generalize upd H' T (.tup [.ref ks[i].κ.p, .int (ks[i].p:Int)]) = H1 at ST hTt ⊢
   refine ⟨T, _, rfl, SqT.of hTt, rfl, _, _, rfl, _, _, rfl, rfl, ?_⟩
   have hx:=List.getElem_mem hi
   have hκs:=hks.is _ hx
   have Os:=(shelves CS).ok _ hκs
   have Br1:=Br.same Or' ST
   obtain ⟨dr, gr⟩:=row_get hκr Br1
   refine ⟨_, rfl, κr.p, dr, _, rfl, gr, Br1.fno Or' (by decide +kernel) (by decide +kernel), _, rfl, κr, S, tr, ks[i].p, hκr, rfl, (hks.pl _ hx).1, (hks.pl _ hx).2, Br1, sq _, fun l1 H3 y1 hl1 S3 g1 wk1=>?_⟩
   have ST3:=ST.trans S3
   refine ⟨_, rfl, _, "list", _, _, rfl, .lst g1, kit_ll K, _, rfl, ?_⟩
   refine iteF ?_
   have Bs:=(hks.at_ _ hx).same Os ST3
   obtain ⟨ds, gs⟩:=shelf_get hκs Bs
   refine ⟨_, rfl, _, rfl, ks[i].κ.p, ds, _, rfl, gs, Bs.fno Os (by decide +kernel) (by decide +kernel), ks[i].κ, S, ks[i].t, hκs, rfl, Bs, hks.so _ hx, fun l2 H4 y2 hl2 S4 g2 wk2=>?_⟩
   have ey:y1 = y2:=weak_uniq wk1 wk2 fun m=>by
    rw [mem_somes_take]
    exact ((hks.std _ hx).1 m).symm
   refine ⟨l1, l2, _, _, rfl, rfl, SqL.of (S4 _ _ g1), SqL.of g2, strs_flat _, strs_flat _, _, rfl, ?_⟩
   rw [if_pos rfl, eqVs_strs, decide_eq_true ey]
   refine iteF ?_
   have ST4:=ST3.trans S4
   clear gr gs dr ds Br1 Bs
   have Br1:=Br.same Or' ST4
   obtain ⟨dr, gr⟩:=row_get hκr Br1
   refine ⟨_, rfl, κr.p, dr, _, rfl, gr, Br1.fno Or' (by decide +kernel) (by decide +kernel), κr, S, tr, hκr, rfl, Br1, fun ls hls=>⟨_, rfl, _, rfl, _, rfl, ?_⟩⟩
   have ST5:Same H (upd H4 ls (.lst (lineV tr.line))):=ST4.trans (Same.upd hls)
   have Bs:=(hks.at_ _ hx).same Os ST5
   refine ⟨ks[i].κ, S, ks[i].t, ls, nl, tr.line, ks[i].p, ns, hκs, rfl, Bs, hks.so _ hx, upd_same, ST5.seq hnl, h30, ok, hks.std _ hx, fun H6 S6=>⟨true, rfl, ?_⟩⟩
   refine iteF ?_
   exact ⟨ST5.trans S6, _, _, _, rfl⟩
  rintro σ H' ⟨SS, z4, z5, z6, rfl⟩
  have Br1:=Br.same Or' SS
  obtain ⟨dr, gr⟩:=row_get hκr Br1
  refine ⟨_, rfl, κr.p, dr, _, rfl, gr, Br1.fno Or' (by decide +kernel) (by decide +kernel), κr, S, tr, hκr, rfl, Br1, sr, fun l1 H3 y1 hl1 S3 g1 wk1=>?_⟩
  refine ⟨_, rfl, _, "list", _, _, rfl, .lst g1, kit_ll K, true, rfl, ?_⟩
  refine iteT ?_
  have ST3:=SS.trans S3
  obtain ⟨x, hx, hlast, hp⟩:=hks.last
  have hκs:=hks.is _ hx
  have Os:=(shelves CS).ok _ hκs
  have Bs:=(hks.at_ _ hx).same Os ST3
  obtain ⟨ds, gs⟩:=shelf_get hκs Bs
  refine ⟨_, rfl, _, rfl, _, rfl, sl, _, _, _, rfl, rfl, ST3.seq hsl, hlast, x.κ.p, ds, _, rfl, gs, Bs.fno Os (by decide +kernel) (by decide +kernel), x.κ, S, x.t, hκs, rfl, Bs, hks.so _ hx, fun l2 H4 y2 hl2 S4 g2 wk2=>?_⟩
  have ey:y1 = y2:=weak_uniq wk1 wk2 fun m=>by
   have:=(hks.std _ hx).1 m
   rw [hp] at this
   rw [← inP_all ok.few]
   exact this.symm
  refine ⟨l1, l2, _, _, rfl, rfl, SqL.of (S4 _ _ g1), SqL.of g2, strs_flat _, strs_flat _, ?_⟩
  rw [if_neg Bool.false_ne_true, eqVs_strs, decide_eq_true ey]
  exact kk _ (ST3.trans S4)
end
end Lk

namespace Lk
open PySem L2
theorem BookAt.other {τ σ:Type} {κ:Kd τ} {κ':Kd σ} {S S':BS} {t:τ} {t':σ} {H H':Hp} (B:BookAt κ S t H) (O:KdOk κ) (B':BookAt κ' S' t' H) (f:Fr κ' H H') (dis:∀ b, κ.own b -> ¬ κ'.own b):BookAt κ S t H':=by
 obtain ⟨⟨dx, h1⟩, h2, h3, h4, h5⟩:=B
 exact ⟨⟨dx, f _ _ h1 (dis _ O.op)⟩, f _ _ h2 (dis _ O.oc), f _ _ h3 (dis _ O.ol), O.fr t H H' h4 (fun b o e ob _ _ _=>f b o e (dis b ob)) (fun b xs e=>f b _ e (B'.noTup e)), fun b hb=>let ⟨o, e, n⟩:=h5 b hb; ⟨o, f _ _ e (dis b hb), n⟩⟩
theorem BookAt.lupd {τ:Type} {κ:Kd τ} {S:BS} {t:τ} {H:Hp} {l:Addr} {xs ys:List V} (B:BookAt κ S t H) (O:KdOk κ) (h:¬ κ.own l) (hl:H l = some (.lst xs)):BookAt κ S t (upd H l (.lst ys)):=by
 obtain ⟨⟨dx, h1⟩, h2, h3, h4, h5⟩:=B
 have ne:∀ b, κ.own b -> b ≠ l:=fun b hb z=>h (by rw [← z]; exact hb)
 exact ⟨⟨dx, by rw [upd_ne (ne _ O.op)]; exact h1⟩, by rw [upd_ne (ne _ O.oc)]; exact h2, by rw [upd_ne (ne _ O.ol)]; exact h3, O.fr t H _ h4 (fun b o e ob _ _ _=>by rw [upd_ne (ne b ob)]; exact e) (fun b zs e=>by rw [upd_ne (ne_of e hl (by intro z; cases z))]; exact e), fun b hb=>let ⟨o, e, n⟩:=h5 b hb; ⟨o, by rw [upd_ne (ne b hb)]; exact e, n⟩⟩
open Classical in
noncomputable def cutW (W:Addr -> Prop) (H:Hp):Hp:=fun b=>if W b then H b else none
theorem cutW_some {W:Addr -> Prop} {H:Hp} {b:Addr} {o:HO} (h:cutW W H b = some o):W b ∧ H b = some o:=by
 unfold cutW at h
 by_cases e:W b
 ·rw [if_pos e] at h; exact ⟨e, h⟩
 ·rw [if_neg e] at h; cases h
theorem cutW_yes {W:Addr -> Prop} {H:Hp} {b:Addr} (h:W b):cutW W H b = H b:=by unfold cutW; rw [if_pos h]
structure HR where
 r:Addr
 f:Addr
 f2:Addr
 L:Line
structure HR.Ok (W:Addr -> Prop) (h:HR) (H:Hp):Prop where
 wr:W h.r
 wf:W h.f
 wf2:W h.f2
 hr:H h.r = some (.tup [.ref h.f, .ref h.f2])
 hf:H h.f = some (.lst (lineV h.L))
 hf2:H h.f2 = some (.lst (lineV h.L))
theorem HR.Ok.keep {W:Addr -> Prop} {h:HR} {H H':Hp} (o:h.Ok W H) (k:∀ b u, W b -> H b = some u -> H' b = some u):h.Ok W H':=⟨o.wr, o.wf, o.wf2, k _ _ o.wr o.hr, k _ _ o.wf o.hf, k _ _ o.wf2 o.hf2⟩
theorem eqVs_line:∀ L:Line, eqVs (lineV L) (lineV L) = true
 | []=>rfl
 | x :: r=>by
   show (eqV (optS x) (optS x) && eqVs (lineV r) (lineV r)) = true
   rw [eqVs_line r, Bool.and_true]
   cases x with
   | none=>rfl
   | some n=>simp [optS, eqV]
theorem atI_last {xs:List V} (h:0 < xs.length):atI xs (-1) = xs[xs.length - 1]?:=by
 unfold atI ixN
 rw [if_neg (by decide), if_pos (by omega)]
 show xs[(-1 + (xs.length:Int)).toNat]? = _
 rw [show (-1 + (xs.length:Int)).toNat = xs.length - 1 by omega]
structure Kl (CS:Addr) (kl:List (Kd ShS)) (ps:List Nat) (κr:Kd RoS):Prop where
 is:∀ κ ∈ kl, (shelves CS).is κ
 len:ps.length = kl.length
 dis:∀ i j (hi:i < kl.length) (hj:j < kl.length), i ≠ j -> ∀ b, kl[i].own b -> ¬ kl[j].own b
 disr:∀ κ ∈ kl, ∀ b, κ.own b -> ¬ κr.own b
 pl:∀ p ∈ ps, 1 ≤ p ∧ p ≤ 1000
 few:kl.length ≤ 100
 last:∃ ps0, ps = ps0 ++ [1000]
structure Sts (kl:List (Kd ShS)) (ps:List Nat) (S:BS) (L:Line) (tf:Nat -> ShS) (k:Nat) (H:Hp):Prop where
 at_:∀ j (h:j < kl.length), BookAt kl[j] S (tf j) H
 std:∀ j (h:j < ps.length), Std L ps[j] (tf j)
 mn:∀ j, j < kl.length -> (tf j).many ≤ k
theorem Sts.same {CS:Addr} {kl:List (Kd ShS)} {ps:List Nat} {κr:Kd RoS} {S:BS} {L:Line} {tf:Nat -> ShS} {k:Nat} {H H':Hp} (h:Sts kl ps S L tf k H) (q:Kl CS kl ps κr) (s:Same H H'):Sts kl ps S L tf k H':=⟨fun j hj=>(h.at_ j hj).same ((shelves CS).ok _ (q.is _ (List.getElem_mem hj))) s, h.std, h.mn⟩
theorem stand_of {S:BS} {L:Line} {p:Nat} {t:ShS} (lin:LineIn S L) (st:Std L p t):StandIn S t:=fun m hm=>by
 obtain ⟨j, _, hj⟩:=(st.1 m).mp hm
 exact lin j m hj
def mkKs (kl:List (Kd ShS)) (tf:Nat -> ShS) (ps:List Nat):List Sx:=List.ofFn fun j:Fin kl.length=>⟨kl[j], tf j, ps.getD j 0⟩
theorem mem_mkKs {kl:List (Kd ShS)} {tf:Nat -> ShS} {ps:List Nat} {x:Sx} (h:x ∈ mkKs kl tf ps):∃ (j:Nat) (hj:j < kl.length), x = ⟨kl[j], tf j, ps.getD j 0⟩:=by
 obtain ⟨j, rfl⟩:=List.mem_ofFn.mp h
 exact ⟨j.1, j.2, rfl⟩
theorem refs_mkKs (kl:List (Kd ShS)) (tf:Nat -> ShS) (ps:List Nat):refsV (mkKs kl tf ps) = kl.map fun κ=>V.ref κ.p:=by
 refine List.ext_getElem ?_ fun j h1 h2=>?_
 ·simp [mkKs]
 ·simp [mkKs]
theorem pl_mkKs {kl:List (Kd ShS)} (tf:Nat -> ShS) {ps:List Nat} (h:ps.length = kl.length):plOf (mkKs kl tf ps) = ps:=by
 refine List.ext_getElem ?_ fun j h1 h2=>?_
 ·simp [mkKs, h]
 ·simp [mkKs, List.getD_eq_getElem?_getD, h2]
theorem getD_eq {ps:List Nat} {j:Nat} (h:j < ps.length):ps.getD j 0 = ps[j]:=by simp [List.getD_eq_getElem?_getD, h]
theorem shs_of {CS:Addr} {kl:List (Kd ShS)} {ps:List Nat} {κr:Kd RoS} {ns:List Str} {sp pt:Int} {S:BS} {L:Line} {tf:Nat -> ShS} {k:Nat} {H:Hp} (q:Kl CS kl ps κr) (h:Sts kl ps S L tf k H) (now:Now ns sp pt k S) (lin:LineIn S L) (h30:ns.length ≤ 30):Shs CS S L (mkKs kl tf ps) H:=by
 have so:∀ j (hj:j < kl.length), Sortable S (tf j).stand:=fun j hj=>sortable_stand (stand_of lin (h.std j (by rw [q.len]; exact hj))) now.co (nd_of (q.is _ (List.getElem_mem hj)) (h.at_ j hj)) now.nm h30
 refine ⟨fun x hx=>?_, fun x hx=>?_, fun x hx=>?_, fun x hx=>?_, fun x hx=>?_, by simp [mkKs]; exact q.few, ?_⟩
 ·obtain ⟨j, hj, rfl⟩:=mem_mkKs hx; exact q.is _ (List.getElem_mem hj)
 ·obtain ⟨j, hj, rfl⟩:=mem_mkKs hx; exact h.at_ j hj
 ·obtain ⟨j, hj, rfl⟩:=mem_mkKs hx; exact so j hj
 ·obtain ⟨j, hj, rfl⟩:=mem_mkKs hx
  have hj':j < ps.length:=by rw [q.len]; exact hj
  show Std L (ps.getD j 0) (tf j)
  rw [getD_eq hj']
  exact h.std j hj'
 ·obtain ⟨j, hj, rfl⟩:=mem_mkKs hx
  have hj':j < ps.length:=by rw [q.len]; exact hj
  show 1 ≤ ps.getD j 0 ∧ ps.getD j 0 ≤ 1000
  rw [getD_eq hj']
  exact q.pl _ (List.getElem_mem hj')
 ·obtain ⟨ps0, e⟩:=q.last
  have hl:=q.len
  have el:ps.length = ps0.length + 1:=by rw [e, List.length_append]; rfl
  have hpos:kl.length - 1 < kl.length:=by omega
  refine ⟨⟨kl[kl.length - 1], tf (kl.length - 1), ps.getD (kl.length - 1) 0⟩, List.mem_ofFn.mpr ⟨⟨kl.length - 1, hpos⟩, rfl⟩, ?_, ?_⟩
  ·rw [refs_mkKs, atI_last (by rw [List.length_map]; omega), List.length_map, List.getElem?_map, List.getElem?_eq_getElem hpos]
   rfl
  ·show ps.getD (kl.length - 1) 0 = 1000
   rw [← hl, el, e]
   simp [List.getD_eq_getElem?_getD]
theorem step_all {ns:List Str} {sp pt:Int} {k:Nat} {S:BS} {d:Dd} {t t':RoS} {s:Option Nat} {v:V} {ps:List Nat} {tf tf':Nat -> ShS} {av:List V} (N:Now ns sp pt k S) (nd:ND t.line) (lin:LineIn S t.line) (hp:∀ p ∈ ps, 1 ≤ p ∧ p ≤ 1000) (last:∃ ps0, ps = ps0 ++ [1000]) (hL:t.line.length ≤ 1000)
  (st:StepR S d t t' s v) (std:∀ j (h:j < ps.length), Std t.line ps[j] (tf j)) (nt:∀ j, j < ps.length -> (tf j).stand.Nodup) (hl:av.length = ps.length) (hd:∀ j, j < ps.length -> ∃ x, av[j]? = some x ∧ DeedT S d (tf j) (tf' j) x) :
  AnsK d v ps av ∧ ∀ j (h:j < ps.length), Std t'.line ps[j] (tf' j):=by
 have key:∀ j (h:j < ps.length), ∃ x, av[j]? = some x ∧ DeedT S d (tf j) (tf' j) x ∧ Std t'.line ps[j] (tf' j) ∧ (∀ n w, d = .ask n w -> x = .bl (metB s ps[j])) ∧ ∀ n, d = .drop n -> x = .bl (metB (spotN t.line n) ps[j]):=fun j h=>by
  obtain ⟨x, e, dt⟩:=hd j h
  obtain ⟨a, b, c⟩:=Std.step N nd lin (hp _ (List.getElem_mem h)).1 st.1 (std j h) (nt j h) dt
  exact ⟨x, e, dt, a, b, c⟩
 refine ⟨?_, fun j h=>(key j h).choose_spec.2.2.1⟩
 obtain ⟨s1, s2, s3⟩:=st
 cases d with
 | ask n w=>
   refine ⟨s, s3, List.ext_getElem? fun j=>?_⟩
   by_cases h:j < ps.length
   ·obtain ⟨x, e, _, _, hx, _⟩:=key j h
    rw [e, hx n w rfl, List.getElem?_map, List.getElem?_eq_getElem h]
    rfl
   ·rw [List.getElem?_eq_none (by omega), List.getElem?_eq_none (by rw [List.length_map]; omega)]
 | rest z=>
   refine ⟨_, s3, List.ext_getElem? fun j=>?_⟩
   by_cases h:j < ps.length
   ·obtain ⟨x, e, dt, _⟩:=key j h
    rw [e, dt.2, List.getElem?_map, List.getElem?_eq_getElem h]
    rfl
   ·rw [List.getElem?_eq_none (by omega), List.getElem?_eq_none (by rw [List.length_map]; omega)]
 | drop n=>
   obtain ⟨ps0, e0⟩:=last
   have el:ps.length = ps0.length + 1:=by rw [e0, List.length_append]; rfl
   have hj:ps.length - 1 < ps.length:=by omega
   obtain ⟨x, e, _, _, _, hx⟩:=key _ hj
   refine ⟨_, s3, ?_⟩
   rw [atI_last (by omega), hl, e, hx n rfl]
   have ep:ps[ps.length - 1] = 1000:=by
    have h2:ps[ps.length - 1]? = some 1000:=by rw [el, e0]; simp
    rw [List.getElem?_eq_getElem hj] at h2
    exact Option.some.inj h2
   rw [ep]
   cases q:spotN t.line n with
   | none=>rfl
   | some i=>
     have:=has_lt (spotN_some q).1
     show some (V.bl (decide (i < 1000))) = some (V.bl true)
     rw [decide_eq_true (by omega)]
theorem stepR_met {S:BS} {d:Dd} {t t':RoS} {s:Option Nat} {v:V} (h:StepR S d t t' s v):t'.met.length ≤ t.met.length + 1:=by
 rw [h.2.1]
 cases s with
 | none=>exact Nat.le_succ _
 | some i=>exact putM_len
end Lk

namespace Lk
open PySem L2
theorem cutN_ints {ns:List Int} (k:Int):∃ cs:List Int, cutV (ns.map V.int) (some k) none = cs.map V.int ∧ cs.length ≤ ns.length:=by
 refine ⟨(ns.drop (HT.sIx (ns.map V.int).length 0 (some k))).take (HT.sIx (ns.map V.int).length (ns.map V.int).length none - HT.sIx (ns.map V.int).length 0 (some k)), ?_, ?_⟩
 ·unfold cutV
  rw [List.map_take, List.map_drop]
 ·rw [List.length_take, List.length_drop]; omega
theorem op_eqLC {X:Cx} {K:PySem.W.Frag} (h:X.K = K) (hu:X.A.units < cLine):OpR X (compareOp .Eq) (rEqL K false):=h ▸ op_eqL hu
structure LG (P:Program) (w:World) (K:PySem.W.Frag) (mg:Str -> Option Value) (base:Heap) (CR CS:Addr) where
 acell:Addr
 cell:FnP P w K mg base 1 acell ["_law_script", "_law_k"] (spCell K)
 hcell:mg "_law_cell_at" = some (.ref acell)
 alnames:Addr
 lnames:FnP P w K mg base 3 alnames ["_law_cell", "_law_many_here"] spLNames
 hlnames:mg "_law_names" = some (.ref alnames)
 amany:Addr
 many:FnP P w K mg base 1 amany ["_law_cell"] (spBetween 1 30)
 hmany:mg "_law_many" = some (.ref amany)
 aspan:Addr
 span:FnP P w K mg base 1 aspan ["_law_cell"] (spBetween 1 (10 ^ 20))
 hspan:mg "_law_span" = some (.ref aspan)
 apart:Addr
 part:FnP P w K mg base 1 apart ["_law_cell"] (spBetween 2 (10 ^ 30))
 hpart:mg "_law_part" = some (.ref apart)
 adeed:Addr
 deed:FnP P w K mg base 1 adeed ["_law_cell", "_law_k", "_law_names_here", "_law_span_here", "_law_light"] (spDeed K)
 hdeed:mg "_law_deed" = some (.ref adeed)
 ado_:Addr
 doS:FnP P w K mg base 19 ado_ ["_law_thing", "_law_deed_here"] (spDoS CS)
 doR:FnP P w K mg base 19 ado_ ["_law_thing", "_law_deed_here"] (spDoR CR)
 hdo_:mg "_law_do" = some (.ref ado_)
 aans:Addr
 ans:FnP P w K mg base 5 aans ["_law_deed_here", "_law_found", "_law_sizes", "_law_answers_here"] (spAnsw K)
 hans:mg "_law_answers" = some (.ref aans)
 afit:Addr
 fit:FnP P w K mg base 10 afit ["_law_spots", "_law_shelf", "_law_places", "_law_names_here"] (spSpotsFit CS K)
 hfit:mg "_law_spots_fit" = some (.ref afit)
 alike:Addr
 like:FnP P w K mg base 12 alike ["_law_row", "_law_shelf", "_law_name"] (spLikeBook CR CS)
 hlike:mg "_law_like_book" = some (.ref alike)
 aall:Addr
 all:FnP P w K mg base 12 aall ["_law_row", "_law_shelves", "_law_sizes", "_law_names_here"] (spAllFit CR CS K)
 hall:mg "_law_all_fit" = some (.ref aall)
section
variable {P:Program} {w:World} {K:PySem.W.Frag} {mg:Str -> Option Value} {base:Heap} {CR CS:Addr}
def spLaw (K:PySem.W.Frag):Sp:=fun vs H Q _=>∃ (a:Addr) (ns:List Int), vs = [.ref a] ∧ SqL K H a (ns.map V.int) ∧ ns.length ≤ 63 ∧ ∀ H', Q (.bl true) H'
theorem scLaw:FnScope ["_law_script", "_law_names_here", "_law_span_here", "_law_part_here", "_law_sizes", "_law_deeds", "_law_k", "_law_cell", "_law_row", "_law_shelves", "_law_held", "_law_deed_here", "_law_answers_here", "_law_spots", "_law_at", "_law_few"] ["_law_script"] (defScope sLaw):=⟨rfl, rfl, rfl, by decide +kernel, rfl, by decide +kernel, by decide +kernel⟩
set_option maxHeartbeats 8000000 in
theorem ok_law {f gr gs:Addr} {fd:FuncData} (F:Fun K "law" "law" sLaw f fd) (B:Blt mg) (TR:RTxt K CR) (TS:STxt K CS) (G:LG P w K mg base CR CS) (R:RG P w K mg base CR) (SGG:SG P w K mg base CS) (MR:Mk K CR gr) (Gr0:FnP P w K mg base 6 gr ["self", "span", "part"] (spRInit CR)) (hmR:mg "Row" = some (.ref CR))
  (MS:Mk K CS gs) (Gs0:FnP P w K mg base 6 gs ["self", "places", "span", "part"] (spSInit CS)) (hmS:mg "Shelf" = some (.ref CS)):FnOk P w K mg base CX0 22 f fd ["_law_script"] (spLaw K):=by
 obtain ⟨fdr, Gr, br, _⟩:=Gr0
 obtain ⟨fds, Gs, bs, _⟩:=Gs0
 refine F.ok scLaw (fun vs H Q E h=>?_) (fun cdv A outer s H vs Q E hr h=>?_)
 ·obtain ⟨a, ns, rfl, _⟩:=h
  rfl
 ·obtain ⟨a, scr, rfl, hS, hlen, kk⟩:=h
  have hu':_ < cLine:=Nat.lt_of_succ_lt (hu_of hr)
  refine ⟨_, (pss_cons (ps_set (i:=1) scLaw.nd rfl (Or.inl rfl) (pe_callP G.lnames (hr.mono (by decide)) G.hlnames (pa_cons (pe_callP G.cell (hr.mono (by decide)) G.hcell (pa_cons (pv 0) (pa_cons pe_int pa_nil))) (pa_cons (pe_callP G.many (hr.mono (by decide)) G.hmany (pa_cons (pe_callP G.cell (hr.mono (by decide)) G.hcell (pa_cons (pv 0) (pa_cons pe_int pa_nil))) pa_nil)) pa_nil))))
   (pss_cons (ps_set (i:=2) scLaw.nd rfl (Or.inr rfl) (pe_callP G.span (hr.mono (by decide)) G.hspan (pa_cons (pe_callP G.cell (hr.mono (by decide)) G.hcell (pa_cons (pv 0) (pa_cons pe_int pa_nil))) pa_nil)))
   (pss_cons (ps_set (i:=3) scLaw.nd rfl (Or.inr rfl) (pe_callP G.part (hr.mono (by decide)) G.hpart (pa_cons (pe_op op_fdiv (pe_callP G.cell (hr.mono (by decide)) G.hcell (pa_cons (pv 0) (pa_cons pe_int pa_nil))) pe_int) pa_nil)))
   (pss_cons (ps_set (i:=4) scLaw.nd rfl (Or.inl rfl) (pe_listRange rfl rfl B.list rfl B.range (pa_cons pe_int (pa_cons (pe_op op_add pe_int (pe_op op_mod.letter (pe_callP G.cell (hr.mono (by decide)) G.hcell (pa_cons (pv 0) (pa_cons pe_int pa_nil))) pe_int)) pa_nil))))
   (pss_cons (ps_set (i:=4) scLaw.nd rfl (Or.inl rfl) (pe_op op_cat (pv 4) (pe_lst (pa_cons (pe_op op_add pe_int (pe_op op_mod.letter (pe_op op_fdiv (pe_callP G.cell (hr.mono (by decide)) G.hcell (pa_cons (pv 0) (pa_cons pe_int pa_nil))) pe_int) pe_int)) (pa_cons pe_int pa_nil)))))
   (pss_cons (ps_setlc (g:=gName 0) (i:=5) (N':=["_law_name", "_law_script"]) (cap:=[none, some 0]) scLaw.nd rfl rfl rfl rfl (pi_list (pv 1)) (fun _ _ _ _ _=>pg_name (i:=0) (by decide +kernel:(["_law_name", "_law_script"]:List Str).Nodup) rfl (Or.inl rfl))
      (fun _ _ _ _ _=>pts_one (pt_cmpR op_eq (pe_op op_mod.letter (pe_op op_fdiv (pe_callP G.cell (hr.mono (by decide)) G.hcell (pa_cons (pv 1) (pa_cons pe_int pa_nil))) pe_int) pe_int) pe_int (nomark _)))
      (fun _ _ _ _ _=>pe_tup (pa_cons pe_str (pa_cons (pv 0) (pa_cons pe_int pa_nil)))) rfl)
   (pss_cons (ps_for PassesOwn.never rfl (pi_enum rfl B.enum (pa_cons (pe_slice sl_list (pv 0) (po_some pe_int) po_none) pa_nil)) (pg_tup rfl (pgs_cons (pg_name (i:=6) scLaw.nd rfl (Or.inl rfl)) (pgs_cons (pg_name (i:=7) scLaw.nd rfl (Or.inl rfl)) pgs_nil)))
      (pss_one (ps_expr (pe_bm PySem.F.plainAttrs_list PySem.F.slot_list_append PySem.F.type_list_append mt_append (pv 5) (pa_cons (pe_callP G.deed (hr.mono (by decide)) G.hdeed (pa_cons (pv 7) (pa_cons (pv 6) (pa_cons (pv 1) (pa_cons (pv 2) (pa_cons (pe_op op_mod.letter (pe_callP G.cell (hr.mono (by decide)) G.hcell (pa_cons (pv 0) (pa_cons pe_int pa_nil))) pe_int) pa_nil)))))) pa_nil)))))
   (pss_cons (ps_set (i:=8) scLaw.nd rfl (Or.inl rfl) (pe_make MR Gr (hr.mono (by decide)) rfl hmR br .nil pass0 (pa_cons (pv 2) (pa_cons (pv 3) pa_nil))))
   (pss_cons (ps_setlc (g:=gName 0) (i:=9) (N':=["_law_places", "_law_span_here", "_law_part_here"]) (cap:=[none, some 2, some 3]) scLaw.nd rfl rfl rfl rfl (pi_list (pv 4)) (fun _ _ _ _ _=>pg_name (i:=0) (by decide +kernel:(["_law_places", "_law_span_here", "_law_part_here"]:List Str).Nodup) rfl (Or.inl rfl)) (fun _ _ _ _ _=>pts_nil)
      (fun _ _ _ _ _=>pe_make MS Gs (hr.mono (by decide)) rfl hmS bs .nil pass0 (pa_cons (pv 0) (pa_cons (pv 1) (pa_cons (pv 2) pa_nil)))) rfl)
   (pss_cons (ps_set (i:=10) scLaw.nd rfl (Or.inl rfl) (pe_lst (pa_cons (pe_tup (pa_cons (pe_methP0 (pv 8) TR.cl R.Mspots R.spots (hr.mono (by decide))) (pa_cons (pe_lst pa_nil) pa_nil))) pa_nil)))
   (pss_cons (ps_for PassesOwn.never rfl (pi_enum rfl B.enum (pa_cons (pv 5) pa_nil)) (pg_tup rfl (pgs_cons (pg_name (i:=6) scLaw.nd rfl (Or.inl rfl)) (pgs_cons (pg_name (i:=11) scLaw.nd rfl (Or.inr rfl)) pgs_nil)))
     (pss_cons (ps_setlc (g:=gName 0) (i:=12) (N':=["_law_shelf", "_law_deed_here"]) (cap:=[none, some 11]) scLaw.nd rfl rfl rfl rfl (pi_list (pv 9)) (fun _ _ _ _ _=>pg_name (i:=0) (by decide +kernel:(["_law_shelf", "_law_deed_here"]:List Str).Nodup) rfl (Or.inl rfl)) (fun _ _ _ _ _=>pts_nil)
       (fun _ _ _ _ _=>pe_callP G.doS (hr.mono (by decide)) G.hdo_ (pa_cons (pv 0) (pa_cons (pv 1) pa_nil))) rfl)
     (pss_cons (ps_if (pt_not (pt_val (pe_callP G.ans (hr.mono (by decide)) G.hans (pa_cons (pv 11) (pa_cons (pe_callP G.doR (hr.mono (by decide)) G.hdo_ (pa_cons (pv 8) (pa_cons (pv 11) pa_nil))) (pa_cons (pv 4) (pa_cons (pv 12) pa_nil))))))) (pss_one (ps_ret pe_bl)) pss_nil)
     (pss_cons (ps_set (i:=13) scLaw.nd rfl (Or.inl rfl) (pe_methP0 (pv 8) TR.cl R.Mspots R.spots (hr.mono (by decide))))
     (pss_cons (ps_expr (pe_bm PySem.F.plainAttrs_list PySem.F.slot_list_append PySem.F.type_list_append mt_append (pv 10) (pa_cons (pe_tup (pa_cons (pv 13) (pa_cons (pe_callTy call_list_of rfl B.list PyProof.Rows.boot_list (pa_cons (pv 13) pa_nil)) pa_nil))) pa_nil)))
     (pss_cons (ps_set (i:=14) scLaw.nd rfl (Or.inl rfl) (pe_op op_mod.letter (pe_op op_add (pv 6) (pe_callP G.cell (hr.mono (by decide)) G.hcell (pa_cons (pv 0) (pa_cons pe_int pa_nil)))) (pe_callB call_len_seq rfl B.len PySem.boot_len (pa_cons (pv 4) pa_nil))))
     (pss_cons (ps_if (pt_not (pt_val (pe_callP G.fit (hr.mono (by decide)) G.hfit (pa_cons (pv 13) (pa_cons (pe_ix ix_list (pv 9) (pv 14) (fun _ _=>rfl)) (pa_cons (pe_ix ix_list (pv 4) (pv 14) (fun _ _=>rfl)) (pa_cons (pv 1) pa_nil))))))) (pss_one (ps_ret pe_bl)) pss_nil)
     (pss_cons (ps_set (i:=15) scLaw.nd rfl (Or.inl rfl) (pe_methP (pv 8) TR.cl R.MnamesAt R.namesAt (hr.mono (by decide)) (pa_cons (pe_ix ix_list (pv 4) (pv 14) (fun _ _=>rfl)) pa_nil)))
     (pss_cons (ps_if (pt_cmpR (op_neL hu') (pv 15) (pe_methP0 (pe_ix ix_list (pv 9) (pv 14) (fun _ _=>rfl)) TS.cl SGG.Mnames SGG.names (hr.mono (by decide))) (nomark _)) (pss_one (ps_ret pe_bl)) pss_nil)
     (pss_cons (ps_expr (pe_bm0 PySem.F.plainAttrs_list PySem.F.slot_list_clear PySem.F.type_list_clear mt_clear (pv 15)))
     (pss_cons (ps_expr (pe_bm0 PySem.F.plainAttrs_list PySem.F.slot_list_clear PySem.F.type_list_clear mt_clear (pe_methP0 (pv 8) TR.cl R.Mspots R.spots (hr.mono (by decide)))))
     (pss_one (ps_if (pt_not (pt_val (pe_callP G.like (hr.mono (by decide)) G.hlike (pa_cons (pv 8) (pa_cons (pe_ix ix_list (pv 9) (pe_un un_neg pe_int) (fun _ _=>rfl)) (pa_cons (pe_ix ix_list (pv 1) (pe_op op_mod.letter (pv 6) (pe_callB call_len_seq rfl B.len PySem.boot_len (pa_cons (pv 1) pa_nil))) (fun _ _=>rfl)) pa_nil)))))) (pss_one (ps_ret pe_bl)) pss_nil)))))))))))))
   (pss_one (ps_ret (pe_and (pe_callB (call_all rfl) rfl B.all_ PyProof.Rows.boot_all (pa_cons
     (pe_lc (g:=gTup K 2 (gCons (gName 0) (gCons (gName 1) gNil))) (N':=["_law_told", "_law_kept"]) (cap:=[none, none]) rfl rfl (pi_list (pv 10)) (fun _ _ _ _ _=>(pg_tup (n:=2) rfl (pgs_cons (pg_name (i:=0) (by decide +kernel:(["_law_told", "_law_kept"]:List Str).Nodup) rfl (Or.inl rfl) (Or.inr rfl)) (pgs_cons (pg_name (i:=1) (by decide +kernel:(["_law_told", "_law_kept"]:List Str).Nodup) rfl (Or.inl rfl) (Or.inr rfl)) pgs_nil)))) (fun _ _ _ _ _=>pts_nil)
       (fun _ _ _ _ _=>pe_cmpR (op_eqLC (K:=K) rfl hu') (pv 0) (pv 1) (nomark _))) pa_nil))
     (pe_one (pe_callP G.all (hr.mono (by decide)) G.hall (pa_cons (pv 8) (pa_cons (pv 9) (pa_cons (pv 4) (pa_cons (pv 1) pa_nil)))))))))))))))))))), ?_⟩
  refine ⟨_, rfl, a, scr, 0, rfl, hS, fun c0=>⟨_, rfl, a, scr, 1, rfl, hS, fun c1=>⟨c1, rfl, fun mz m1 m2=>?_⟩⟩⟩
  obtain ⟨mn, rfl⟩:=Int.eq_ofNat_of_zero_le (show 0 ≤ mz by omega)
  refine ⟨c0, mn, rfl, by omega, by omega, fun nl H1 ns hnl S1 hns hnlen hgn=>?_⟩
  have hS1:=S1.seq hS
  refine ⟨_, rfl, a, scr, 2, rfl, hS1, fun c2=>⟨c2, rfl, fun sp sp1 sp2=>?_⟩⟩
  refine ⟨_, rfl, a, scr, 3, rfl, hS1, fun c3=>⟨_, _, rfl, rfl, ⟨by decide, by decide⟩, _, rfl, fun pt pt1 pt2=>?_⟩⟩
  have hne:ns ≠ []:=fun z=>by rw [z] at hnlen; simp at hnlen; omega
  have hnl30:ns.length ≤ 30:=by omega
  refine ⟨_, rfl, a, scr, 4, rfl, hS1, fun c4=>⟨_, _, rfl, rfl, (by show (0:Int) < 4; decide), fun z4 hz4=>⟨_, _, rfl, rfl, 1, 2 + z4, rfl, ?_, ?_, fun l0 hl0=>?_⟩⟩⟩
  ·have h4:0 ≤ z4 ∧ z4 < 4:=by omega
   exact ⟨by omega, by omega, by omega, by omega⟩
  ·have h4:0 ≤ z4 ∧ z4 < 4:=by omega
   omega
  have h4:0 ≤ z4 ∧ z4 < 4:=by omega
  have S2:Same H1 (upd H1 l0 (.lst ((List.range (2 + z4 - 1).toNat).map fun k:Nat=>V.int (1 + k)))):=Same.upd hl0
  have g0:(upd H1 l0 (.lst ((List.range (2 + z4 - 1).toNat).map fun k:Nat=>V.int (1 + k)))) l0 = some (.lst ((List.range (2 + z4 - 1).toNat).map fun k:Nat=>V.int (1 + k))):=upd_same
  generalize upd H1 l0 (.lst ((List.range (2 + z4 - 1).toNat).map fun k:Nat=>V.int (1 + k))) = H2 at S2 g0 ⊢
  have hS2:=S2.seq hS1
  refine ⟨_, rfl, _, rfl, a, scr, 4, rfl, hS2, fun c4'=>⟨_, _, rfl, rfl, ⟨by decide, by decide⟩, _, _, rfl, rfl, (by show (0:Int) < 60; decide), fun z60 hz60=>⟨_, _, rfl, rfl, (by show 2 ≤ sizeLine; decide), fun l1 hl1=>?_⟩⟩⟩
  have h60:0 ≤ z60 ∧ z60 < 60:=by omega
  have S3:Same H2 (upd H2 l1 (.lst [V.int (1 + z60), V.int 1000])):=Same.upd hl1
  refine ⟨l0, l1, _, _, rfl, rfl, S3 _ _ g0, upd_same, Nat.le_trans (show _ ≤ 100 by rw [List.length_map, List.length_range]; show _ + 2 ≤ 100; omega) (by decide), fun sz hsz=>?_⟩
  obtain ⟨ps, eps, hps, fps, lps⟩:∃ ps:List Nat, ((List.range (2 + z4 - 1).toNat).map fun k:Nat=>V.int (1 + k)) ++ [V.int (1 + z60), V.int 1000] = sizesV ps ∧ (∀ p ∈ ps, 1 ≤ p ∧ p ≤ 1000) ∧ ps.length ≤ 100 ∧ ∃ ps0, ps = ps0 ++ [1000]:=by
   obtain ⟨y, rfl⟩:=Int.eq_ofNat_of_zero_le h60.1
   refine ⟨((List.range (2 + z4 - 1).toNat).map fun k:Nat=>1 + k) ++ [1 + y, 1000], ?_, fun p hp=>?_, ?_, ((List.range (2 + z4 - 1).toNat).map fun k:Nat=>1 + k) ++ [1 + y], by simp⟩
   ·unfold sizesV
    rw [List.map_append, List.map_map]
    congr 1
   ·rcases List.mem_append.mp hp with z | z
    ·obtain ⟨k, hk, rfl⟩:=List.mem_map.mp z
     have:=List.mem_range.mp hk
     omega
    ·rcases List.mem_cons.mp z with z | z
     ·omega
     ·have:=List.mem_singleton.mp z; omega
   ·rw [List.length_append, List.length_map, List.length_range]
    show _ + 2 ≤ 100
    omega
  rw [eps]
  have S4:Same (upd H2 l1 (.lst [V.int (1 + z60), V.int 1000])) (upd (upd H2 l1 (.lst [V.int (1 + z60), V.int 1000])) sz (.lst (sizesV ps))):=Same.upd hsz
  have gsz:(upd (upd H2 l1 (.lst [V.int (1 + z60), V.int 1000])) sz (.lst (sizesV ps))) sz = some (.lst (sizesV ps)):=upd_same
  have S14:=(S2.trans S3).trans S4
  generalize upd (upd H2 l1 (.lst [V.int (1 + z60), V.int 1000])) sz (.lst (sizesV ps)) = H4 at S4 gsz S14 ⊢
  have hS4:=S14.seq hS1
  have hns4:=S14 _ _ hns
  clear eps S2 S3 S4 g0 hl0 hl1 hsz hz4 hz60 h4 h60 hS2 S14 hS1 hns hnl S1
  refine ⟨_, rfl, nl, rfl, ⟨_, SqL.of hns4⟩, ?_⟩
  refine lc_go ns.length (fun i ys σ' H'=>∃ dd:List (Addr × Dd), ys = dd.map (fun x=>V.ref x.1) ∧ dd.length ≤ i ∧ (∀ x ∈ dd, H' x.1 = some (.tup (Dd.v x.2)) ∧ GoodD ns x.2) ∧ Same H4 H' ∧ ∃ v1, σ' = [v1, some (.ref a)])
   ⟨[], rfl, Nat.le_refl _, by simp, Same.refl _, none, rfl⟩ (Nat.le_trans hnl30 (by decide)) ?_ ?_ ?_ ?_
  ·rintro i ys σ' H' hi ⟨dd, _, _, _, SS, _⟩
   exact ⟨_, .str ns[i], SqL.of (SS _ _ hns4), by simp [hi]⟩
  ·rintro ys σ' H' ⟨dd, _, _, _, SS, _⟩
   exact ⟨_, SqL.of (SS _ _ hns4), by rw [List.length_map]; exact Nat.le_refl _⟩
  ·rintro i ys σ' H3 x H5 hi hl ⟨dd, rfl, hdl, hdd, SS, v1, rfl⟩ ⟨rfl, hy⟩
   have hy':x = .str ns[i]:=by
    have:=hy _ (SqL.of (SS _ _ hns4))
    rw [List.getElem?_map, List.getElem?_eq_getElem hi] at this
    exact (Option.some.inj this).symm
   subst hy'
   refine ⟨_, rfl, a, scr, 0, rfl, SS.seq hS4, fun c=>⟨_, _, rfl, rfl, ⟨by decide, by decide⟩, _, _, rfl, rfl, (by show (0:Int) < 4; decide), fun z hz=>⟨rfl, _, rfl, ?_⟩⟩⟩
   refine ite2 (fun _=>?_) (fun _=>?_)
   ·refine ⟨_, rfl, (by show 3 ≤ sizeLine; decide), fun q hq=>?_⟩
    refine lcYes hi hl (Nat.le_trans hnl30 (by decide)) ⟨dd ++ [(q, .ask ns[i] 1)], by rw [List.map_append]; rfl, by rw [List.length_append]; exact Nat.succ_le_succ hdl, fun z hz=>?_, SS.trans (Same.upd hq), _, rfl⟩
    rcases List.mem_append.mp hz with e | e
    ·exact ⟨Same.upd hq _ _ (hdd z e).1, (hdd z e).2⟩
    ·rw [List.mem_singleton.mp e]
     exact ⟨upd_same, List.getElem_mem hi, by decide, by decide⟩
   ·exact lcNo hi hl ⟨dd, rfl, by omega, hdd, SS, _, rfl⟩
  rintro ys σ' H3 ⟨dd0, rfl, hdl0, hdd0, S3, v1, rfl⟩ dl hdlf
  have hdlN:H4 dl = none:=S3.free hdlf
  have S5:Same H3 (upd H3 dl (.lst (dd0.map fun x=>V.ref x.1))):=Same.upd hdlf
  have hdl5:(upd H3 dl (.lst (dd0.map fun x=>V.ref x.1))) dl = some (.lst (dd0.map fun x=>V.ref x.1)):=upd_same
  have hdd5:∀ x ∈ dd0, (upd H3 dl (.lst (dd0.map fun x=>V.ref x.1))) x.1 = some (.tup (Dd.v x.2)) ∧ GoodD ns x.2:=fun x hx=>⟨S5 _ _ (hdd0 x hx).1, (hdd0 x hx).2⟩
  have S45:=S3.trans S5
  generalize upd H3 dl (.lst (dd0.map fun x=>V.ref x.1)) = H5 at S5 hdl5 hdd5 S45 ⊢
  clear hdd0 S3 S5 hdlf
  obtain ⟨cs, ecs, hcs⟩:=cutN_ints (ns:=scr) 5
  refine ⟨_, rfl, _, rfl, a, _, rfl, S45.seq hS4, fun sl hsl=>?_⟩
  have Ssl:Same H5 (upd H5 sl (.lst (cutV (scr.map V.int) (some 5) none))):=Same.upd hsl
  have hsl':(upd H5 sl (.lst (cutV (scr.map V.int) (some 5) none))) sl = some (.lst (cs.map V.int)):=by rw [upd_same, ecs]
  generalize upd H5 sl (.lst (cutV (scr.map V.int) (some 5) none)) = H6 at Ssl hsl' ⊢
  have nsd:sl ≠ dl:=fun z=>by rw [z, hdl5] at hsl; cases hsl
  have S46:=S45.trans Ssl
  refine ⟨sl, rfl, ⟨_, SqL.of hsl'⟩, ?_⟩
  refine for_go (J:=Ite K sl) cs.length (fun i σ H'=>∃ (dd:List (Addr × Dd)) (z6 z7:Option V), σ = [some (.ref a), some (.ref nl), some (.int sp), some (.int pt), some (.ref sz), some (.ref dl), z6, z7, none, none, none, none, none, none, none, none] ∧
   H' dl = some (.lst (dd.map fun x=>V.ref x.1)) ∧ dd.length ≤ 30 + i ∧ (∀ x ∈ dd, H' x.1 = some (.tup (Dd.v x.2)) ∧ GoodD ns x.2) ∧ Same H4 H' ∧ H' sl = some (.lst (cs.map V.int))) ?_ ?_ ?_ ?_ ?_
  ·exact ⟨dd0, _, _, rfl, Ssl _ _ hdl5, by omega, fun x hx=>⟨Ssl _ _ (hdd5 x hx).1, (hdd5 x hx).2⟩, S46, hsl'⟩
  ·rintro i σ H' hi ⟨dd, z6, z7, rfl, _, _, _, _, hs⟩
   exact ⟨_, .int cs[i], SqL.of hs, by simp [hi]⟩
  ·rintro σ H' ⟨dd, z6, z7, rfl, _, _, _, _, hs⟩
   exact ⟨_, SqL.of hs, by rw [List.length_map]; exact Nat.le_refl _⟩
  ·rintro i σ Ha x Hb hi ⟨dd, z6, z7, rfl, hdl, hdlen, hdd, SS, hs⟩ ⟨T1, y, hT, rfl, rfl, hy⟩
   have hy':y = .int cs[i]:=by
    have:=hy _ (SqL.of hs)
    rw [List.getElem?_map, List.getElem?_eq_getElem hi] at this
    exact (Option.some.inj this).symm
   subst hy'
   have ST:Same Ha (upd Ha T1 (.tup [.int i, .int cs[i]])):=Same.upd hT
   have hTt:(upd Ha T1 (.tup [.int i, .int cs[i]])) T1 = some (.tup [.int i, .int cs[i]]):=upd_same
   generalize upd Ha T1 (.tup [.int i, .int cs[i]]) = Hb at ST hTt ⊢
   refine ⟨T1, _, rfl, SqT.of hTt, rfl, _, _, rfl, _, _, rfl, rfl, ?_⟩
   have SSb:=SS.trans ST
   refine ⟨_, rfl, .inl ⟨rfl, _, SqL.of (ST _ _ hdl)⟩, _, rfl, _, rfl, _, rfl, _, rfl, _, rfl, a, scr, 3, rfl, SSb.seq hS4, fun c=>⟨_, _, rfl, rfl, (by show (0:Int) < 3; decide), fun lt hlt=>?_⟩⟩
   refine ⟨cs[i], i, nl, ns, sp, lt, rfl, by omega, SqL.of (SSb _ _ hns4), hne, sp1, sp2, by omega, by omega, fun q H7 d hq S7 hqd gd=>?_⟩
   have S17:=SSb.trans S7
   have hdl7:=S7 _ _ (ST _ _ hdl)
   have hs7:=S7 _ _ (ST _ _ hs)
   refine ⟨dl, _, _, rfl, rfl, hdl7, Nat.lt_of_le_of_lt (show (dd.map fun x=>V.ref x.1).length ≤ 1000 by rw [List.length_map]; omega) (by decide), ?_⟩
   refine ⟨dd ++ [(q, d)], _, _, rfl, by rw [upd_same, List.map_append]; rfl, by rw [List.length_append]; show _ + 1 ≤ _; omega, fun z hz=>?_, fun b o e=>?_, ?_⟩
   ·have key:∀ {b:Addr} {xs:List V}, H7 b = some (.tup xs) -> (upd H7 dl (.lst (dd.map (fun x=>V.ref x.1) ++ [.ref q]))) b = some (.tup xs):=fun {b xs} e=>by rw [upd_ne (ne_of e hdl7 (by intro z; cases z))]; exact e
    rcases List.mem_append.mp hz with e | e
    ·exact ⟨key (S7 _ _ (ST _ _ (hdd z e).1)), (hdd z e).2⟩
    ·rw [List.mem_singleton.mp e]; exact ⟨key hqd, gd⟩
   ·rw [upd_ne (fun z=>by rw [z, hdlN] at e; cases e)]; exact S17 _ _ e
   ·rw [upd_ne nsd]; exact hs7
  rintro σ H7 ⟨dd, z6, z7, rfl, hdl7, hdlen, hdd7, S47, _⟩
  have hmlen:dd.length ≤ 93:=by omega
  have hS7:=S47.seq hS4
  have hns7:=S47 _ _ hns4
  have hsz7:=S47 _ _ gsz
  clear hsl' hsl nsd Ssl S46 S45 hdl5 hdd5 hdl0 hdlN ecs hcs S47 hS4 hns4 gsz
  refine ⟨_, rfl, _, rfl, ?_⟩
  intro x1 dx1 nx1 ndx1 nex1
  refine ⟨x1, dx1, sp, pt, rfl, upd_same, sp1, sp2, pt1, pt2, fun κr H8 ir hp1 f1 Kr kp1=>⟨rfl, ?_⟩⟩
  have s0:Same H7 (upd (upd H7 dx1 (.own x1)) x1 (.ins CR dx1 [])):=fun b o e=>by rw [upd_ne (ne_of_none e nx1), upd_ne (ne_of_none e ndx1)]; exact e
  have S8:Same H7 H8:=fun b o e=>kp1 b o (s0 b o e) (ne_of_none e nx1)
  have gr7:∀ b, κr.own b -> H7 b = none:=fun b hb=>(f1 b hb).elim (fun e=>by rw [e]; exact nx1) fun e=>s0.free e
  subst hp1
  clear kp1 s0 f1 nx1 ndx1 nex1
  have Or':=(rows CR).ok κr ir
  have hsz8:=S8 _ _ hsz7
  have hlp:ps.length ≤ sizeLine:=Nat.le_trans fps (by decide)
  refine ⟨_, rfl, sz, rfl, ⟨_, SqL.of hsz8⟩, ?_⟩
  refine lc_go ps.length (fun i ys σ' H'=>∃ kl:List (Kd ShS), ys = kl.map (fun κ=>V.ref κ.p) ∧ kl.length = i ∧ (∀ κ ∈ kl, (shelves CS).is κ ∧ ∀ b, κ.own b -> H8 b = none) ∧ kl.Pairwise (fun κ κ'=>∀ b, κ.own b -> ¬ κ'.own b) ∧ (∀ (j:Nat) (κ:Kd ShS) (p:Nat), kl[j]? = some κ -> ps[j]? = some p -> BookAt κ (startS sp pt) ⟨(p:Int), [], []⟩ H') ∧ Same H8 H' ∧ ∃ v1, σ' = [v1, some (.int sp), some (.int pt)])
   ⟨[], rfl, rfl, by simp, List.Pairwise.nil, by simp, Same.refl _, none, rfl⟩ hlp ?_ ?_ ?_ ?_
  ·rintro i ys σ' H' hi ⟨kl, _, _, _, _, _, SS, _⟩
   exact ⟨_, .int ps[i], SqL.of (SS _ _ hsz8), by simp [hi]⟩
  ·rintro ys σ' H' ⟨kl, _, _, _, _, _, SS, _⟩
   exact ⟨_, SqL.of (SS _ _ hsz8), by rw [List.length_map]; exact Nat.le_refl _⟩
  ·rintro i ys σ' Ha x Hb hi hl ⟨kl, rfl, hkl, his, hpw, hat, SS, v1, rfl⟩ ⟨rfl, hy⟩
   have hx:x = .int (ps[i]:Int):=by
    have:=hy _ (SqL.of (SS _ _ hsz8))
    rw [List.getElem?_map, List.getElem?_eq_getElem hi] at this
    exact (Option.some.inj this).symm
   subst hx
   have hp:=hps _ (List.getElem_mem hi)
   refine ⟨_, rfl, _, rfl, _, rfl, ?_⟩
   intro x2 dx2 nx2 ndx2 nex2
   refine ⟨x2, dx2, (ps[i]:Int), sp, pt, rfl, upd_same, by omega, by omega, sp1, sp2, pt1, pt2, fun κ Hc i2 hp2 f2 K2 kp2=>⟨rfl, ?_⟩⟩
   have s0:Same Hb (upd (upd Hb dx2 (.own x2)) x2 (.ins CS dx2 [])):=fun b o e=>by rw [upd_ne (ne_of_none e nx2), upd_ne (ne_of_none e ndx2)]; exact e
   have S9:Same Hb Hc:=fun b o e=>kp2 b o (s0 b o e) (ne_of_none e nx2)
   have g2:∀ b, κ.own b -> Hb b = none:=fun b hb=>(f2 b hb).elim (fun e=>by rw [e]; exact nx2) fun e=>s0.free e
   subst hp2
   refine lcYes hi hl hlp ⟨kl ++ [κ], by rw [List.map_append]; rfl, by rw [List.length_append, hkl]; rfl, fun κ' hκ'=>?_, ?_, fun j κ' p' e1 e2=>?_, SS.trans S9, _, rfl⟩
   ·rcases List.mem_append.mp hκ' with z | z
    ·exact his κ' z
    ·rw [List.mem_singleton.mp z]
     exact ⟨i2, fun b hb=>SS.free (g2 b hb)⟩
   ·refine List.pairwise_append.mpr ⟨hpw, List.pairwise_singleton _ _, fun κ1 h1 κ2 h2 b o1 o2=>?_⟩
    rw [List.mem_singleton.mp h2] at o2
    obtain ⟨j, hj, rfl⟩:=List.mem_iff_getElem.mp h1
    obtain ⟨o, e, _⟩:=(hat j _ ps[j] (List.getElem?_eq_getElem hj) (List.getElem?_eq_getElem (by omega))).al b o1
    rw [g2 b o2] at e; cases e
   ·by_cases hj:j < kl.length
    ·rw [List.getElem?_append_left hj] at e1
     have hm:κ' ∈ kl:=List.mem_of_getElem? e1
     exact (hat j κ' p' e1 e2).same ((shelves CS).ok _ (his _ hm).1) S9
    ·have hj2:j = kl.length:=by
      have:=(List.getElem?_eq_some_iff.mp e1).1
      rw [List.length_append] at this
      have:j < kl.length + 1:=this
      omega
     subst hj2
     rw [List.getElem?_append_right (Nat.le_refl _), Nat.sub_self] at e1
     have e1:κ = κ':=Option.some.inj e1
     subst e1
     subst hkl
     rw [List.getElem?_eq_getElem hi] at e2
     have e2:ps[kl.length] = p':=Option.some.inj e2
     subst e2
     exact K2
  rintro ys σ' H9 ⟨kl, rfl, hkl, his, hpw, hat, S9, v1, rfl⟩ sl hslf
  have disr:∀ κ ∈ kl, ∀ b, κ.own b -> ¬ κr.own b:=fun κ hκ b z y=>by
   obtain ⟨o, e, _⟩:=Kr.al b y
   rw [(his κ hκ).2 b z] at e; cases e
  have S10:Same H9 (upd H9 sl (.lst (kl.map fun κ=>V.ref κ.p))):=Same.upd hslf
  have gsl:(upd H9 sl (.lst (kl.map fun κ=>V.ref κ.p))) sl = some (.lst (kl.map fun κ=>V.ref κ.p)):=upd_same
  have nslr:¬ κr.own sl:=fun z=>by
   obtain ⟨o, e, _⟩:=(Kr.same Or' S9).al sl z
   rw [hslf] at e; cases e
  have atk:∀ j (h:j < kl.length), BookAt kl[j] (startS sp pt) ⟨(ps[j]'(by omega):Int), [], []⟩ H9:=fun j h=>hat j _ _ (List.getElem?_eq_getElem h) (List.getElem?_eq_getElem (by omega))
  have nslk:∀ κ ∈ kl, ¬ κ.own sl:=fun κ hκ z=>by
   obtain ⟨j, hj, rfl⟩:=List.mem_iff_getElem.mp hκ
   obtain ⟨o, e, _⟩:=(atk j hj).al sl z
   rw [hslf] at e; cases e
  have okk:∀ j (h:j < kl.length), KdOk kl[j]:=fun j h=>(shelves CS).ok _ (his _ (List.getElem_mem h)).1
  have Kr:=Kr.same Or' (S9.trans S10)
  have atk:=fun j h=>(atk j h).same (okk j h) S10
  have S8a:=S8.trans (S9.trans S10)
  generalize upd H9 sl (.lst (kl.map fun κ=>V.ref κ.p)) = Ha at S10 gsl Kr atk S8a ⊢
  obtain ⟨dr, gr⟩:=row_get ir Kr
  refine ⟨_, rfl, κr.p, dr, _, rfl, gr, Kr.fno Or' (by decide +kernel) (by decide +kernel), κr, _, _, ir, rfl, Kr, fun f1 hf1=>?_⟩
  have T1:Same Ha (upd Ha f1 (.lst (lineV ([]:Line)))):=Same.upd hf1
  have e1:(upd Ha f1 (.lst (lineV ([]:Line)))) f1 = some (.lst (lineV ([]:Line))):=upd_same
  have w1:=Kr.new hf1
  have w1k:=fun j h=>(atk j h).new hf1
  have n1:f1 ≠ sl:=fun z=>by rw [z, gsl] at hf1; cases hf1
  have Kr:=Kr.same Or' T1
  have atk:=fun j h=>(atk j h).same (okk j h) T1
  have gsl:=T1 _ _ gsl
  have S8a:=S8a.trans T1
  generalize upd Ha f1 (.lst (lineV ([]:Line))) = Hb at T1 e1 Kr atk gsl S8a ⊢
  refine ⟨by decide, fun f2 hf2=>?_⟩
  have T2:Same Hb (upd Hb f2 (.lst [])):=Same.upd hf2
  have e2:(upd Hb f2 (.lst [])) f2 = some (.lst (lineV ([]:Line))):=upd_same
  have w2:=Kr.new hf2
  have w2k:=fun j h=>(atk j h).new hf2
  have Kr:=Kr.same Or' T2
  have atk:=fun j h=>(atk j h).same (okk j h) T2
  have gsl:=T2 _ _ gsl
  have S8a:=S8a.trans T2
  have e1:=T2 _ _ e1
  generalize upd Hb f2 (.lst []) = Hc at T2 e2 Kr atk gsl S8a e1 ⊢
  refine ⟨(by show 2 ≤ sizeLine; decide), fun q hq=>?_⟩
  have T3:Same Hc (upd Hc q (.tup [.ref f1, .ref f2])):=Same.upd hq
  have e3:(upd Hc q (.tup [.ref f1, .ref f2])) q = some (.tup [.ref f1, .ref f2]):=upd_same
  have w3:=Kr.new hq
  have w3k:=fun j h=>(atk j h).new hq
  have Kr:=Kr.same Or' T3
  have atk:=fun j h=>(atk j h).same (okk j h) T3
  have gsl:=T3 _ _ gsl
  have S8a:=S8a.trans T3
  have e1:=T3 _ _ e1
  have e2:=T3 _ _ e2
  generalize upd Hc q (.tup [.ref f1, .ref f2]) = Hd at T3 e3 Kr atk gsl S8a e1 e2 ⊢
  refine ⟨(by show 1 ≤ sizeLine; decide), fun hl hhl=>?_⟩
  have T4:Same Hd (upd Hd hl (.lst [.ref q])):=Same.upd hhl
  have ghl:(upd Hd hl (.lst [.ref q])) hl = some (.lst (([⟨q, f1, f2, []⟩]:List HR).map fun h=>V.ref h.r)):=upd_same
  have nhr:=Kr.new hhl
  have nhk:=fun j h=>(atk j h).new hhl
  have nh1:f1 ≠ hl:=ne_of_none e1 hhl
  have nh2:f2 ≠ hl:=ne_of_none e2 hhl
  have nh3:q ≠ hl:=ne_of_none e3 hhl
  have nhsl:sl ≠ hl:=ne_of_none gsl hhl
  have nh7:H7 hl = none:=S8a.free hhl
  have Kr:=Kr.same Or' T4
  have atk:=fun j h=>(atk j h).same (okk j h) T4
  have gsl:=T4 _ _ gsl
  have S8a:=S8a.trans T4
  have e1:=T4 _ _ e1
  have e2:=T4 _ _ e2
  have e3:=T4 _ _ e3
  generalize upd Hd hl (.lst [.ref q]) = He at T4 ghl Kr atk gsl S8a e1 e2 e3 ⊢
  have memk:∀ {b:Addr}, (∀ j (h:j < kl.length), ¬ kl[j].own b) -> ∀ κ ∈ kl, ¬ κ.own b:=fun {b} h κ hκ=>by
   obtain ⟨j, hj, rfl⟩:=List.mem_iff_getElem.mp hκ
   exact h j hj
  have hn8:∀ κ ∈ kl, ∀ b, κ.own b -> H8 b = none:=fun κ hκ=>(his κ hκ).2
  have isk:∀ κ ∈ kl, (shelves CS).is κ:=fun κ hκ=>(his κ hκ).1
  clear T1 T2 T3 T4 hf1 hf2 hq hhl n1 hat his S9 S10 hslf gr dr hsz8
  generalize hW:(fun b=>¬ κr.own b ∧ (∀ κ ∈ kl, ¬ κ.own b) ∧ b ≠ hl) = W
  have Wof:∀ {b:Addr}, ¬ κr.own b -> (∀ κ ∈ kl, ¬ κ.own b) -> b ≠ hl -> W b:=fun a b c=>by rw [← hW]; exact ⟨a, b, c⟩
  have Wto:∀ {b:Addr}, W b -> ¬ κr.own b ∧ (∀ κ ∈ kl, ¬ κ.own b) ∧ b ≠ hl:=fun a=>by rw [← hW] at a; exact a
  have S7c:Same H7 (cutW W He):=fun b o e=>by
   rw [cutW_yes (Wof (fun z=>by rw [gr7 b z] at e; cases e) (fun κ hκ z=>by have:=S8 _ _ e; rw [hn8 κ hκ b z] at this; cases this) (fun z=>by rw [z, nh7] at e; cases e))]
   exact S8a _ _ e
  have Hce:Same (cutW W He) He:=fun b o e=>(cutW_some e).2
  have nC:∀ b o, cutW W He b = some o -> W b:=fun b o e=>(cutW_some e).1
  have hSc:=S7c.seq hS7
  have hnsc:=S7c _ _ hns7
  have hszc:=S7c _ _ hsz7
  have hdlc:=S7c _ _ hdl7
  have hddc:∀ x ∈ dd, (cutW W He) x.1 = some (.tup (Dd.v x.2)) ∧ GoodD ns x.2:=fun x hx=>⟨S7c _ _ (hdd7 x hx).1, (hdd7 x hx).2⟩
  have hslc:cutW W He sl = some (.lst (kl.map fun κ=>V.ref κ.p)):=by rw [cutW_yes (Wof nslr nslk nhsl)]; exact gsl
  have ok0:HR.Ok W ⟨q, f1, f2, []⟩ He:=⟨Wof w3 (memk w3k) nh3, Wof w1 (memk w1k) nh1, Wof w2 (memk w2k) nh2, e3, e1, e2⟩
  generalize cutW W He = Hc at S7c Hce nC hSc hnsc hszc hdlc hddc hslc
  have kl0:Kl CS kl ps κr:=by
   refine ⟨isk, hkl.symm, fun i j hi hj hij b z y=>?_, disr, hps, by omega, lps⟩
   rcases Nat.lt_or_gt_of_ne hij with h | h
   ·exact List.pairwise_iff_getElem.mp hpw i j hi hj h b z y
   ·exact List.pairwise_iff_getElem.mp hpw j i hj hi h b y z
  have sts0:Sts kl ps (startS sp pt) [] (fun j=>⟨((ps.getD j 0:Nat):Int), [], []⟩) 0 He:=by
   refine ⟨fun j h=>?_, fun j h=>⟨fun m=>⟨fun z=>by simp at z, fun z=>absurd z inP_nil⟩, ?_⟩, fun j h=>Nat.le_refl _⟩
   ·have:=atk j h
    rw [← getD_eq (by omega)] at this
    exact this
   ·show ((ps.getD j 0:Nat):Int) = _
    rw [getD_eq h]
  clear S7c gsl S8a e1 e2 e3 w1 w2 w3 w1k w2k w3k nh1 nh2 nh3 nh7 nslr nslk nhsl memk hn8 hpw atk hdl7 hdd7 hsz7 hns7 hS7 S8 gr7 isk disr hps
  have nhk':∀ κ ∈ kl, ¬ κ.own hl:=fun κ hκ=>by
   obtain ⟨j, hj, rfl⟩:=List.mem_iff_getElem.mp hκ
   exact nhk j hj
  clear nhk
  refine ⟨_, rfl, dl, rfl, ⟨_, SqL.of (Hce _ _ hdlc)⟩, ?_⟩
  refine for_go (J:=Ite K dl) dd.length (fun i σ H'=>∃ (S:BS) (tr:RoS) (tf:Nat -> ShS) (hs:List HR) (z6 z11 z12 z13 z14 z15:Option V), σ = [some (.ref a), some (.ref nl), some (.int sp), some (.int pt), some (.ref sz), some (.ref dl), z6, z7, some (.ref κr.p), some (.ref sl), some (.ref hl), z11, z12, z13, z14, z15] ∧
   Now ns sp pt i S ∧ ND tr.line ∧ LineIn S tr.line ∧ tr.line.length ≤ i ∧ Tr tr.line ∧ tr.met.length ≤ i ∧ BookAt κr S tr H' ∧ Sts kl ps S tr.line tf i H' ∧ Same Hc H' ∧ H' hl = some (.lst (hs.map fun h=>V.ref h.r)) ∧ hs.length = i + 1 ∧ ∀ h ∈ hs, h.Ok W H') ?_ ?_ ?_ ?_ ?_
  ·exact ⟨startS sp pt, ⟨[], []⟩, _, [⟨q, f1, f2, []⟩], _, none, none, none, none, none, rfl, Now.start ns sp pt, fun i j m z=>by simp [Has] at z, fun i m z=>by simp [Has] at z, Nat.le_refl _, rfl, Nat.le_refl _, Kr, sts0, Hce, ghl, rfl, fun h hh=>by rw [List.mem_singleton.mp hh]; exact ok0⟩
  ·rintro i σ H' hi ⟨S, tr, tf, hs, z6, z11, z12, z13, z14, z15, rfl, _, _, _, _, _, _, _, _, SS, _⟩
   exact ⟨_, .ref dd[i].1, SqL.of (SS _ _ hdlc), by simp [hi]⟩
  ·rintro σ H' ⟨S, tr, tf, hs, z6, z11, z12, z13, z14, z15, rfl, _, _, _, _, _, _, _, _, SS, _⟩
   exact ⟨_, SqL.of (SS _ _ hdlc), by rw [List.length_map]; exact Nat.le_refl _⟩
  ·clear Kr sts0 Hce ghl ok0
   rintro i σ Ha x Hb hi ⟨S, tr, tf, hs, z6, z11, z12, z13, z14, z15, rfl, now, nd, lin, hll, trm, mlen, KR, sts, SS, hhl, hsl, hok⟩ ⟨T1, y, hT, rfl, rfl, hy⟩
   have hy':y = .ref dd[i].1:=by
    have:=hy _ (SqL.of (SS _ _ hdlc))
    rw [List.getElem?_map, List.getElem?_eq_getElem hi] at this
    exact (Option.some.inj this).symm
   subst hy'
   have ST:Same Ha (upd Ha T1 (.tup [.int i, .ref dd[i].1])):=Same.upd hT
   have hTt:(upd Ha T1 (.tup [.int i, .ref dd[i].1])) T1 = some (.tup [.int i, .ref dd[i].1]):=upd_same
   have KR:=KR.same Or' ST
   have sts:=sts.same kl0 ST
   have hhl:=ST _ _ hhl
   have SS:=SS.trans ST
   have hok:∀ h ∈ hs, h.Ok W _:=fun h hh=>(hok h hh).keep fun b u _ e=>ST b u e
   generalize upd Ha T1 (.tup [.int i, .ref dd[i].1]) = Hb at ST hTt KR sts hhl SS hok ⊢
   obtain ⟨hdq0, gd⟩:=hddc dd[i] (List.getElem_mem _)
   generalize dd[i].2 = d at hdq0 gd
   generalize dd[i].1 = q1 at hTt hdq0
   have hik:i ≤ 1000:=by omega
   have fit:=now.fit hik sp1 sp2 pt1 pt2 hnl30
   have fit1:=now.fit1 hik sp1 sp2 pt1 pt2 hnl30
   have now':=now.step gd
   refine ⟨T1, _, rfl, SqT.of hTt, rfl, _, _, rfl, _, _, rfl, rfl, ?_⟩
   refine ⟨_, rfl, sl, rfl, ⟨_, SqL.of (SS _ _ hslc)⟩, ?_⟩
   have hlk:kl.length ≤ sizeLine:=Nat.le_trans kl0.few (by decide)
   refine lc_go kl.length (fun j ys σ' H'=>∃ tf':Nat -> ShS, ys.length = j ∧ (∀ k (h:k < kl.length), BookAt kl[k] (if k < j then stepB S d else S) (tf' k) H') ∧ (∀ k, k < j -> ∃ v, ys[k]? = some v ∧ DeedT S d (tf k) (tf' k) v) ∧ (∀ k, j ≤ k -> tf' k = tf k) ∧ BookAt κr S tr H' ∧ (∀ b u, W b ∨ b = hl -> Hb b = some u -> H' b = some u) ∧ ∃ v1, σ' = [v1, some (.ref q1)])
    ⟨tf, rfl, fun k h=>by rw [if_neg (Nat.not_lt_zero _)]; exact sts.at_ k h, fun k h=>absurd h (Nat.not_lt_zero _), fun k _=>rfl, KR, fun b u _ e=>e, none, rfl⟩ hlk ?_ ?_ ?_ ?_
   ·rintro j ys σ' H' hj ⟨tf', _, _, _, _, _, kp, _⟩
    exact ⟨_, .ref kl[j].p, SqL.of (kp _ _ (.inl (nC _ _ hslc)) (SS _ _ hslc)), by simp [hj]⟩
   ·rintro ys σ' H' ⟨tf', _, _, _, _, _, kp, _⟩
    exact ⟨_, SqL.of (kp _ _ (.inl (nC _ _ hslc)) (SS _ _ hslc)), by rw [List.length_map]; exact Nat.le_refl _⟩
   ·rintro j ys σ' Hx x Hy hj hl' ⟨tf', hyl, hat, hdt, hrest, KRx, kp, v1, rfl⟩ ⟨rfl, hy⟩
    have hx:x = .ref kl[j].p:=by
     have:=hy _ (SqL.of (kp _ _ (.inl (nC _ _ hslc)) (SS _ _ hslc)))
     rw [List.getElem?_map, List.getElem?_eq_getElem hj] at this
     exact (Option.some.inj this).symm
    subst hx
    have hjp:j < ps.length:=by rw [kl0.len]; exact hj
    have hm:=List.getElem_mem hj
    have Bj:BookAt kl[j] S (tf j) Hy:=by
     have:=hat j hj
     rw [if_neg (Nat.lt_irrefl _), hrest j (Nat.le_refl _)] at this
     exact this
    refine ⟨_, rfl, _, rfl, kl[j], S, tf j, q1, d, ns, kl0.is _ hm, rfl, kp _ _ (.inl (nC _ _ hdq0)) (SS _ _ hdq0), Bj, fit, fit1, gd, hgn, stand_of lin (sts.std j hjp), by rw [(sts.std j hjp).2]; have:=(kl0.pl _ (List.getElem_mem hjp)).1; omega, by have:=sts.mn j hj; omega, fun t' v HA dA KA frA=>?_⟩
    refine lcYes hj hl' hlk ⟨fun k=>if k = j then t' else tf' k, by rw [List.length_append, hyl]; rfl, fun k hk=>?_, fun k hk=>?_, fun k hk=>?_, KRx.other Or' Bj frA (fun b z y=>kl0.disr _ hm b y z), fun b u wb e=>frA b u (kp b u wb e) ?_, _, rfl⟩
    ·by_cases e:k = j
     ·subst e
      show BookAt kl[k] _ (if k = k then t' else tf' k) HA
      rw [if_pos (Nat.lt_succ_self _), if_pos rfl]
      exact KA
     ·have hk0:=hat k hk
      have eif:(if k < j + 1 then stepB S d else S) = if k < j then stepB S d else S:=by
       by_cases h:k < j
       ·rw [if_pos h, if_pos (by omega)]
       ·rw [if_neg h, if_neg (by omega)]
      show BookAt kl[k] _ (if k = j then t' else tf' k) HA
      rw [eif, if_neg e]
      exact hk0.other ((shelves CS).ok _ (kl0.is _ (List.getElem_mem hk))) Bj frA (kl0.dis k j hk hj e)
    ·by_cases e:k = j
     ·subst e
      refine ⟨v, by rw [List.getElem?_append_right (by omega), hyl, Nat.sub_self]; rfl, ?_⟩
      show DeedT S d (tf k) (if k = k then t' else tf' k) v
      rw [if_pos rfl]
      exact dA
     ·obtain ⟨x, e1, e2⟩:=hdt k (by omega)
      refine ⟨x, by rw [List.getElem?_append_left (by omega)]; exact e1, ?_⟩
      show DeedT S d (tf k) (if k = j then t' else tf' k) x
      rw [if_neg e]
      exact e2
    ·show (if k = j then t' else tf' k) = tf k
     rw [if_neg (by omega)]
     exact hrest k (by omega)
    ·rcases wb with wb | wb
     ·exact (Wto wb).2.1 _ hm
     ·rw [wb]; exact nhk' _ hm
   rintro ys σ' Hx ⟨tf', hyl, hat, hdt, _, KRx, kp, v1, rfl⟩ an hanf
   have hat:∀ k (h:k < kl.length), BookAt kl[k] (stepB S d) (tf' k) Hx:=fun k h=>by
    have:=hat k h
    rw [if_pos h] at this
    exact this
   have okk:∀ k (h:k < kl.length), KdOk kl[k]:=fun k h=>(shelves CS).ok _ (kl0.is _ (List.getElem_mem h))
   have nan:=KRx.new hanf
   have Sx:Same Hx (upd Hx an (.lst ys)):=Same.upd hanf
   have gan:(upd Hx an (.lst ys)) an = some (.lst ys):=upd_same
   have KRx:=KRx.same Or' Sx
   have hat:=fun k h=>(hat k h).same (okk k h) Sx
   have kp:∀ b u, W b ∨ b = hl -> Hb b = some u -> (upd Hx an (.lst ys)) b = some u:=fun b u wb e=>Sx _ _ (kp b u wb e)
   generalize upd Hx an (.lst ys) = Hy at Sx gan KRx hat kp ⊢
   refine ⟨_, rfl, _, rfl, _, rfl, κr, S, tr, q1, d, ns, ir, rfl, kp _ _ (.inl (nC _ _ hdq0)) (SS _ _ hdq0), KRx, fit, fit1, gd, hgn, nd, lin, by omega, by omega, fun tr' s' v HB stp KR' frR=>⟨_, rfl, _, rfl, ?_⟩⟩
   have hat:=fun k (h:k < kl.length)=>(hat k h).other (okk k h) KRx frR (kl0.disr _ (List.getElem_mem h))
   have gan:=frR _ _ gan nan
   have kp:∀ b u, W b ∨ b = hl -> Hb b = some u -> HB b = some u:=fun b u wb e=>frR b u (kp b u wb e) (by
    rcases wb with wb | wb
    ·exact (Wto wb).1
    ·rw [wb]; exact nhr)
   have ntf:∀ j, j < ps.length -> (tf j).stand.Nodup:=fun j hj=>nd_of (kl0.is _ (List.getElem_mem (by rw [← kl0.len]; exact hj))) (sts.at_ j (by rw [← kl0.len]; exact hj))
   obtain ⟨ansk, std'⟩:=step_all (tf:=tf) (tf':=tf') now nd lin kl0.pl kl0.last (by omega) stp sts.std ntf (by rw [hyl, kl0.len]) (fun j hj=>hdt j (by rw [← kl0.len]; exact hj))
   obtain ⟨nd', lin', hll'⟩:=stp.1.ok now nd lin
   have trm':=stp.1.tr trm
   have mlen':=stepR_met stp
   have hll2:tr'.line.length ≤ i + 1:=by omega
   have mlen2:tr'.met.length ≤ i + 1:=by omega
   have SSB:Same Hc HB:=fun b o e=>kp b o (.inl (nC b o e)) (SS b o e)
   refine ⟨q1, d, v, sz, an, ps, ys, rfl, SSB _ _ hdq0, SqL.of (SSB _ _ hszc), SqL.of gan, fps, ansk, fun Hg Sg=>⟨true, rfl, ?_⟩⟩
   refine iteF ?_
   have sts':Sts kl ps (stepB S d) tr'.line tf' (i + 1) Hg:=⟨fun k h=>(hat k h).same (okk k h) Sg, std', fun k h=>by
    obtain ⟨x, _, dt⟩:=hdt k h
    have h1:=deedT_many (ntf k (by rw [kl0.len]; exact h)) dt
    have h2:=sts.mn k h
    omega⟩
   have KR:=KR'.same Or' Sg
   have kp:∀ b u, W b ∨ b = hl -> Hb b = some u -> Hg b = some u:=fun b u wb e=>Sg _ _ (kp b u wb e)
   have SS:Same Hc Hg:=fun b o e=>kp b o (.inl (nC b o e)) (SS b o e)
   have hhl:=kp _ _ (.inr rfl) hhl
   have hok:∀ h ∈ hs, h.Ok W Hg:=fun h hh=>(hok h hh).keep fun b u wb e=>kp b u (.inl wb) e
   clear kp Sg KR' hat gan ansk std' ntf hdt hyl KRx Sx nan hanf SSB frR sts fit fit1 nd lin hll trm mlen ST hTt hT
   generalize stepB S d = S' at now' sts' KR lin'
   clear hll' mlen' stp now
   obtain ⟨dr, gr⟩:=row_get ir KR
   refine ⟨_, rfl, κr.p, dr, _, rfl, gr, KR.fno Or' (by decide +kernel) (by decide +kernel), κr, S', tr', ir, rfl, KR, fun f1 hf1=>?_⟩
   have T1:Same Hg (upd Hg f1 (.lst (lineV tr'.line))):=Same.upd hf1
   have e1:(upd Hg f1 (.lst (lineV tr'.line))) f1 = some (.lst (lineV tr'.line)):=upd_same
   have w1:W f1:=Wof (KR.new hf1) (fun κ hκ=>by
    obtain ⟨j, hj, rfl⟩:=List.mem_iff_getElem.mp hκ
    exact (sts'.at_ j hj).new hf1) (fun z=>by rw [z, hhl] at hf1; cases hf1)
   have KR:=KR.same Or' T1
   have sts':=sts'.same kl0 T1
   have SS:=SS.trans T1
   have hhl:=T1 _ _ hhl
   have hok:∀ h ∈ hs, h.Ok W _:=fun h hh=>(hok h hh).keep fun b u _ e=>T1 b u e
   generalize upd Hg f1 (.lst (lineV tr'.line)) = Hh at T1 e1 KR sts' SS hhl hok ⊢
   clear T1 hf1 gr dr
   refine ⟨_, rfl, .inl ⟨rfl, _, SqL.of hhl⟩, _, rfl, _, rfl, f1, _, rfl, .inl (SqL.of e1), fun f2 hf2=>?_⟩
   have T1:Same Hh (upd Hh f2 (.lst (lineV tr'.line))):=Same.upd hf2
   have e2:(upd Hh f2 (.lst (lineV tr'.line))) f2 = some (.lst (lineV tr'.line)):=upd_same
   have w2:W f2:=Wof (KR.new hf2) (fun κ hκ=>by
    obtain ⟨j, hj, rfl⟩:=List.mem_iff_getElem.mp hκ
    exact (sts'.at_ j hj).new hf2) (fun z=>by rw [z, hhl] at hf2; cases hf2)
   have KR:=KR.same Or' T1
   have sts':=sts'.same kl0 T1
   have SS:=SS.trans T1
   have hhl:=T1 _ _ hhl
   have e1:=T1 _ _ e1
   have hok:∀ h ∈ hs, h.Ok W _:=fun h hh=>(hok h hh).keep fun b u _ e=>T1 b u e
   generalize upd Hh f2 (.lst (lineV tr'.line)) = Hi at T1 e1 e2 KR sts' SS hhl hok ⊢
   clear T1 hf2
   refine ⟨(by show 2 ≤ sizeLine; decide), fun q2 hq2=>?_⟩
   have T1:Same Hi (upd Hi q2 (.tup [.ref f1, .ref f2])):=Same.upd hq2
   have e3:(upd Hi q2 (.tup [.ref f1, .ref f2])) q2 = some (.tup [.ref f1, .ref f2]):=upd_same
   have w3:W q2:=Wof (KR.new hq2) (fun κ hκ=>by
    obtain ⟨j, hj, rfl⟩:=List.mem_iff_getElem.mp hκ
    exact (sts'.at_ j hj).new hq2) (fun z=>by rw [z, hhl] at hq2; cases hq2)
   have KR:=KR.same Or' T1
   have sts':=sts'.same kl0 T1
   have SS:=SS.trans T1
   have hhl:=T1 _ _ hhl
   have e1:=T1 _ _ e1
   have e2:=T1 _ _ e2
   have hok:∀ h ∈ hs, h.Ok W _:=fun h hh=>(hok h hh).keep fun b u _ e=>T1 b u e
   generalize upd Hi q2 (.tup [.ref f1, .ref f2]) = Hj at T1 e1 e2 e3 KR sts' SS hhl hok ⊢
   clear T1 hq2
   refine ⟨hl, _, _, rfl, rfl, hhl, Nat.lt_of_le_of_lt (show (hs.map fun h=>V.ref h.r).length ≤ 1000 by rw [List.length_map]; omega) (by decide), ?_⟩
   have kpW:∀ b u, W b -> Hj b = some u -> (upd Hj hl (.lst ((hs.map fun h=>V.ref h.r) ++ [.ref q2]))) b = some u:=fun b u wb e=>by rw [upd_ne (Wto wb).2.2]; exact e
   have KR:BookAt κr S' tr' (upd Hj hl (.lst ((hs.map fun h=>V.ref h.r) ++ [.ref q2]))):=KR.lupd Or' nhr hhl
   have sts':Sts kl ps S' tr'.line tf' (i + 1) (upd Hj hl (.lst ((hs.map fun h=>V.ref h.r) ++ [.ref q2]))):=⟨fun k h=>(sts'.at_ k h).lupd (okk k h) (nhk' _ (List.getElem_mem h)) hhl, sts'.std, sts'.mn⟩
   have SS:Same Hc (upd Hj hl (.lst ((hs.map fun h=>V.ref h.r) ++ [.ref q2]))):=fun b o e=>kpW b o (nC b o e) (SS b o e)
   have ghl:(upd Hj hl (.lst ((hs.map fun h=>V.ref h.r) ++ [.ref q2]))) hl = some (.lst ((hs ++ [(⟨q2, f1, f2, tr'.line⟩:HR)]).map fun h=>V.ref h.r)):=by rw [upd_same, List.map_append]; rfl
   have hok:∀ h ∈ hs ++ [(⟨q2, f1, f2, tr'.line⟩:HR)], h.Ok W (upd Hj hl (.lst ((hs.map fun h=>V.ref h.r) ++ [.ref q2]))):=fun h hh=>by
    rcases List.mem_append.mp hh with z | z
    ·exact (hok h z).keep kpW
    ·rw [List.mem_singleton.mp z]
     exact ⟨w3, w1, w2, kpW _ _ w3 e3, kpW _ _ w1 e1, kpW _ _ w2 e2⟩
   have e1:=kpW _ _ w1 e1
   have hsl2:(hs ++ [(⟨q2, f1, f2, tr'.line⟩:HR)]).length = i + 1 + 1:=by rw [List.length_append, hsl]; rfl
   generalize hs ++ [(⟨q2, f1, f2, tr'.line⟩:HR)] = hs' at ghl hok hsl2
   generalize upd Hj hl (.lst ((hs.map fun h=>V.ref h.r) ++ [.ref q2])) = Hk at KR sts' SS ghl hok e1 ⊢
   clear kpW e2 e3 w2 w3 hhl hsl
   have h30:=hnl30
   have sq:∀ q, Sortable S' (somes (tr'.line.take q)):=fun q=>sortable_line lin' now'.co nd' now'.nm hnl30
   have sr:Sortable S' (somes tr'.line):=by
    have:=sq tr'.line.length
    rw [List.take_length] at this
    exact this
   have lok:LineOk ns tr'.line:=⟨trm', nd', by omega, fun m hm=>by
    obtain ⟨e, he⟩:=sr.there m hm
    exact now'.nm m (List.mem_map.mpr ⟨e, findE_mem he, (findE_some he).1⟩)⟩
   have hpos:0 < ps.length:=by
    obtain ⟨ps0, e⟩:=lps
    rw [e, List.length_append]
    exact Nat.succ_pos _
   refine ⟨_, rfl, _, rfl, a, scr, 1, rfl, SS.seq hSc, fun c=>⟨_, _, rfl, rfl, _, rfl, sz, _, rfl, .inl (SqL.of (SS _ _ hszc)), _, _, rfl, rfl, ?_, fun zat hzat=>?_⟩⟩
   ·rw [List.length_map]; omega
   rw [List.length_map] at hzat
   have a1:=Int.emod_nonneg ((i:Int) + c) (show (ps.length:Int) ≠ 0 by omega)
   have a2:=Int.emod_lt_of_pos ((i:Int) + c) (show (0:Int) < (ps.length:Int) by omega)
   obtain ⟨at_, rfl⟩:=Int.eq_ofNat_of_zero_le (show 0 ≤ zat by omega)
   have hatp:at_ < ps.length:=by omega
   have hatk:at_ < kl.length:=by rw [← kl0.len]; exact hatp
   clear hzat a1 a2
   have ix1:atI (kl.map fun κ=>V.ref κ.p) (at_:Int) = some (.ref kl[at_].p):=atI_nat (by rw [List.getElem?_map, List.getElem?_eq_getElem hatk]; rfl)
   have ix2:atI (sizesV ps) (at_:Int) = some (.int (ps[at_]:Int)):=atI_nat (by rw [List.getElem?_map, List.getElem?_eq_getElem hatp]; rfl)
   have isa:=kl0.is _ (List.getElem_mem hatk)
   have soa:Sortable S' (tf' at_).stand:=sortable_stand (stand_of lin' (sts'.std at_ hatp)) now'.co (nd_of isa (sts'.at_ at_ hatk)) now'.nm hnl30
   refine ⟨_, rfl, _, rfl, _, rfl, sl, _, _, _, rfl, rfl, SqL.of (SS _ _ hslc), ix1, _, rfl, _, rfl, sz, _, _, _, rfl, rfl, SqL.of (SS _ _ hszc), ix2, _, rfl, ?_⟩
   refine ⟨kl[at_], S', tf' at_, f1, nl, tr'.line, ps[at_], ns, isa, rfl, sts'.at_ at_ hatk, soa, e1, SqL.of (SS _ _ hnsc), hnl30, lok, sts'.std at_ hatp, fun Hl Sl=>⟨true, rfl, ?_⟩⟩
   refine iteF ?_
   have KR:=KR.same Or' Sl
   have sts':=sts'.same kl0 Sl
   have SS:=SS.trans Sl
   have ghl:=Sl _ _ ghl
   have hok:∀ h ∈ hs', h.Ok W Hl:=fun h hh=>(hok h hh).keep fun b u _ e=>Sl b u e
   clear e1 w1 Sl
   obtain ⟨dr, gr⟩:=row_get ir KR
   refine ⟨_, rfl, κr.p, dr, _, rfl, gr, KR.fno Or' (by decide +kernel) (by decide +kernel), _, rfl, _, rfl, sz, _, _, _, rfl, rfl, SqL.of (SS _ _ hszc), ix2, κr, S', tr', ps[at_], ir, rfl, (kl0.pl _ (List.getElem_mem hatp)).1, (kl0.pl _ (List.getElem_mem hatp)).2, KR, sq _, fun l1 Hm y1 hl1 S1 g1 wk1=>?_⟩
   have Bs:=(sts'.at_ at_ hatk).same (okk at_ hatk) S1
   obtain ⟨ds, gs⟩:=shelf_get isa Bs
   refine ⟨_, rfl, _, rfl, _, rfl, sl, _, _, _, rfl, rfl, SqL.of (S1 _ _ (SS _ _ hslc)), ix1, kl[at_].p, ds, _, rfl, gs, Bs.fno (okk at_ hatk) (by decide +kernel) (by decide +kernel), kl[at_], S', tf' at_, isa, rfl, Bs, soa, fun l2 Hn y2 hl2 S2 g2 wk2=>?_⟩
   have ey:y1 = y2:=weak_uniq wk1 wk2 fun m=>by
    rw [mem_somes_take]
    exact ((sts'.std at_ hatp).1 m).symm
   have g1:=S2 _ _ g1
   refine ⟨l1, l2, _, _, rfl, rfl, SqL.of g1, SqL.of g2, strs_flat _, strs_flat _, _, rfl, ?_⟩
   rw [if_pos rfl, eqVs_strs, decide_eq_true ey]
   refine iteF ?_
   refine ⟨_, rfl, .inl ⟨rfl, _, SqL.of g1⟩, l1, _, rfl, rfl, g1, ?_⟩
   have Sl:Same Hl (upd Hn l1 (.lst [])):=same_fresh (S1.trans S2) hl1
   generalize upd Hn l1 (.lst []) = Ho at Sl ⊢
   have KR:=KR.same Or' Sl
   have sts':=sts'.same kl0 Sl
   have SS:=SS.trans Sl
   have ghl:=Sl _ _ ghl
   have hok:∀ h ∈ hs', h.Ok W Ho:=fun h hh=>(hok h hh).keep fun b u _ e=>Sl b u e
   clear Sl ey wk1 wk2 g1 g2 hl1 hl2 S1 S2 gs ds Bs gr dr
   obtain ⟨dr, gr⟩:=row_get ir KR
   refine ⟨_, rfl, κr.p, dr, _, rfl, gr, KR.fno Or' (by decide +kernel) (by decide +kernel), κr, S', tr', ir, rfl, KR, fun ls hls=>?_⟩
   refine ⟨.inl ⟨rfl, _, SqL.of upd_same⟩, ls, _, rfl, rfl, upd_same, ?_⟩
   have Sl:Same Ho (upd (upd Ho ls (.lst (lineV tr'.line))) ls (.lst [])):=same_fresh (Same.upd hls) hls
   generalize upd (upd Ho ls (.lst (lineV tr'.line))) ls (.lst []) = Hp' at Sl ⊢
   have KR:=KR.same Or' Sl
   have sts':=sts'.same kl0 Sl
   have SS:=SS.trans Sl
   have ghl:=Sl _ _ ghl
   have hok:∀ h ∈ hs', h.Ok W Hp':=fun h hh=>(hok h hh).keep fun b u _ e=>Sl b u e
   clear Sl hls gr dr
   have shs:=shs_of kl0 sts' now' lin' hnl30
   obtain ⟨x, hx, hlast, hp⟩:=shs.last
   rw [refs_mkKs] at hlast
   have hnpos:0 < ns.length:=List.length_pos_iff.mpr hne
   refine ⟨_, rfl, _, rfl, _, rfl, sl, _, _, _, rfl, rfl, SqL.of (SS _ _ hslc), hlast, _, rfl, _, rfl, _, rfl, nl, _, rfl, .inl (SqL.of (SS _ _ hnsc)), _, _, rfl, rfl, ?_, fun zn hzn=>?_⟩
   ·rw [List.length_map]; omega
   rw [List.length_map] at hzn
   have a1:=Int.emod_nonneg (i:Int) (show (ns.length:Int) ≠ 0 by omega)
   have a2:=Int.emod_lt_of_pos (i:Int) (show (0:Int) < (ns.length:Int) by omega)
   obtain ⟨an2, rfl⟩:=Int.eq_ofNat_of_zero_le (show 0 ≤ zn by omega)
   have hann:an2 < ns.length:=by omega
   clear hzn a1 a2
   refine ⟨nl, _, _, _, rfl, rfl, SqL.of (SS _ _ hnsc), atI_nat (v:=.str ns[an2]) (by rw [List.getElem?_map, List.getElem?_eq_getElem hann]; rfl), ?_⟩
   refine ⟨κr, x.κ, S', tr', x.t, ns[an2], ir, shs.is x hx, rfl, KR, shs.at_ x hx, hgn _ (List.getElem_mem hann), sr, shs.so x hx, lok.few, by have:=shs.std x hx; rw [hp] at this; exact this, fun Hq Sq=>⟨true, rfl, ?_⟩⟩
   refine iteF ?_
   exact ⟨S', tr', tf', hs', _, _, _, _, _, _, rfl, now', nd', lin', hll2, trm', mlen2, KR.same Or' Sq, sts'.same kl0 Sq, SS.trans Sq, Sq _ _ ghl, hsl2, fun h hh=>(hok h hh).keep fun b u _ e=>Sq b u e⟩
  clear Kr sts0 Hce ghl ok0
  rintro σ Ha ⟨S, tr, tf, hs, z6, z11, z12, z13, z14, z15, rfl, now, nd, lin, hll, trm, mlen, KR, sts, SS, hhl, hsl, hok⟩
  refine ⟨_, rfl, hl, rfl, ⟨_, SqL.of hhl⟩, ?_⟩
  have hlh:hs.length ≤ sizeLine:=Nat.le_trans (show hs.length ≤ 100 by omega) (by decide)
  refine lc_go hs.length (fun i ys σ' H'=>ys = List.replicate i (V.bl true) ∧ H' = Ha ∧ ∃ v1 v2, σ' = [v1, v2]) ⟨rfl, rfl, none, none, rfl⟩ hlh ?_ ?_ ?_ ?_
  ·rintro i ys σ' H' hi ⟨_, rfl, _⟩
   exact ⟨_, .ref hs[i].r, SqL.of hhl, by simp [hi]⟩
  ·rintro ys σ' H' ⟨_, rfl, _⟩
   exact ⟨_, SqL.of hhl, by rw [List.length_map]; exact Nat.le_refl _⟩
  ·rintro i ys σ' H' v H2 hi hl' ⟨rfl, rfl, v1, v2, rfl⟩ ⟨rfl, hy⟩
   have hv:v = .ref hs[i].r:=by
    have:=hy _ (SqL.of hhl)
    rw [List.getElem?_map, List.getElem?_eq_getElem hi] at this
    exact (Option.some.inj this).symm
   subst hv
   have oki:=hok _ (List.getElem_mem hi)
   refine ⟨hs[i].r, _, rfl, SqT.of oki.hr, rfl, _, _, rfl, _, _, rfl, rfl, ?_⟩
   refine ⟨_, rfl, _, rfl, hs[i].f, hs[i].f2, _, _, rfl, rfl, SqL.of oki.hf, SqL.of oki.hf2, line_flat _, line_flat _, ?_⟩
   rw [if_neg Bool.false_ne_true, eqVs_line]
   refine lcYes hi hl' hlh ⟨?_, rfl, _, _, rfl⟩
   rw [List.replicate_succ']
  rintro ys σ' H' ⟨rfl, rfl, v1, v2, rfl⟩ al hal
  have Sl:Same H' (upd H' al (.lst (List.replicate hs.length (V.bl true)))):=Same.upd hal
  refine ⟨al, List.replicate hs.length true, rfl, SqL.of (by rw [upd_same, List.map_replicate]), ?_⟩
  rw [show (List.replicate hs.length true).all id = true by simp]
  refine ⟨true, rfl, ?_⟩
  refine iteT ?_
  generalize upd H' al (.lst (List.replicate hs.length (V.bl true))) = Hz at Sl ⊢
  have KR:=KR.same Or' Sl
  have sts:=sts.same kl0 Sl
  have SS:=SS.trans Sl
  have sq:∀ q, Sortable S (somes (tr.line.take q)):=fun q=>sortable_line lin now.co nd now.nm hnl30
  have sr:Sortable S (somes tr.line):=by
   have:=sq tr.line.length
   rw [List.take_length] at this
   exact this
  have lok:LineOk ns tr.line:=⟨trm, nd, by omega, fun m hm=>by
   obtain ⟨e, he⟩:=sr.there m hm
   exact now.nm m (List.mem_map.mpr ⟨e, findE_mem he, (findE_some he).1⟩)⟩
  refine ⟨_, rfl, _, rfl, _, rfl, _, rfl, κr, S, tr, mkKs kl tf ps, sl, sz, nl, ns, ir, rfl, KR, shs_of kl0 sts now lin hnl30, ?_, ?_, SqL.of (SS _ _ hnsc), hnl30, lok, sq, sr, fun H2 _=>kk H2⟩
  ·rw [refs_mkKs]; exact SqL.of (SS _ _ hslc)
  ·rw [pl_mkKs tf kl0.len]; exact SqL.of (SS _ _ hszc)
end
end Lk

namespace Lk
open PySem L2
open PySem.W (nsIn findIn isFn keepIn specialIn readsIn findCls CFound takesIn plainGet hasDictIn plainOver makesIn codeIn fnOf Frag OpenLaw mg_of mg_none_of)
theorem askS_binds0 {K:Frag} {f:Addr} {fd:FuncData} {t0:Tok} (F:FunD K "ask" "Shelf.ask" sSAsk f fd [.int 1 t0]):Binds K fd ["self", "name", "weight"] []:=
 F.binds fun _ _ _ _ _ _ _ us hl=>match us, hl with | [_, _, _], _=>⟨_, rfl, rfl⟩
theorem askS_binds1 {K:Frag} {f:Addr} {fd:FuncData} {t0:Tok} (F:FunD K "ask" "Shelf.ask" sSAsk f fd [.int 1 t0]):Binds K fd ["self", "name", "weight"] [.int 1 t0]:=
 F.binds fun _ _ _ _ _ _ _ us hl=>by
  have h2:us.length = 2:=by
   rw [List.length_append] at hl
   exact Nat.succ.inj hl
  match us, h2 with
  | [_, _], _=>exact ⟨_, rfl, rfl⟩
theorem askR_binds0 {K:Frag} {f:Addr} {fd:FuncData} {t0:Tok} (F:FunD K "ask" "Row.ask" sRAsk f fd [.int 1 t0]):Binds K fd ["self", "name", "weight"] []:=
 F.binds fun _ _ _ _ _ _ _ us hl=>match us, hl with | [_, _, _], _=>⟨_, rfl, rfl⟩
theorem askR_binds1 {K:Frag} {f:Addr} {fd:FuncData} {t0:Tok} (F:FunD K "ask" "Row.ask" sRAsk f fd [.int 1 t0]):Binds K fd ["self", "name", "weight"] [.int 1 t0]:=
 F.binds fun _ _ _ _ _ _ _ us hl=>by
  have h2:us.length = 2:=by
   rw [List.length_append] at hl
   exact Nat.succ.inj hl
  match us, h2 with
  | [_, _], _=>exact ⟨_, rfl, rfl⟩
theorem all_mk {l:OpenLaw} {w:World} {K:Frag} {h:Heap} {mg:Str -> Option Value} {fa:Addr} {fd:FuncData} {ocAS kVAS dcAS pmAS cdAS ctAS otAS:Value} {odAS anAS toAS:Option Addr} {slAS tsAS:Array (Option Value)} {dsAS:Array Value} {nAS:Nat} {t0S:Tok} {ocAR kVAR dcAR pmAR cdAR ctAR otAR:Value} {odAR anAR toAR:Option Addr} {slAR tsAR:Array (Option Value)} {dsAR:Array Value} {nAR:Nat} {t0R:Tok} {C0 fL m_binit f_whole f_name f_ckName f_ckWeight f_ckSteps f_ckPlaces f_ckRule f_ageings f_aged f_cell f_lwhole f_sign f_lnames f_many f_span f_part f_deed f_do f_depth f_answ f_spotsFit f_allFit f_likeBook m_rest m_strength m_beginAsk m_grow m_beginDrop m_passTime m_ageCounts m_timeNow m_deedsDone m_countOf m_lastOf m_inOrder m_sinit m_sdrop m_takeIn m_takeOff m_sfade m_snames m_rinit m_rdrop m_spotOf m_leave m_rfade m_bringIn m_rnames m_spots m_namesAt m_namesOn CS fAS TAS CR fAR TAR:Addr} (X:K.In h) (G:h.Ns mainGlobals mg) (hfa:mg "law" = some (.ref fa))
(aB:nsIn K mainGlobals "Book" = some (some (.ref C0)))
(a_whole:nsIn K mainGlobals "is_whole_within" = some (some (.ref f_whole)))
(F_whole:FunB K "is_whole_within" "is_whole_within" sIsWhole f_whole ["value", "least", "most"])
(a_name:nsIn K mainGlobals "is_name" = some (some (.ref f_name)))
(F_name:FunB K "is_name" "is_name" sIsName f_name ["value"])
(a_ckName:nsIn K mainGlobals "check_name" = some (some (.ref f_ckName)))
(F_ckName:FunB K "check_name" "check_name" sCkName f_ckName ["name"])
(a_ckWeight:nsIn K mainGlobals "check_weight" = some (some (.ref f_ckWeight)))
(F_ckWeight:FunB K "check_weight" "check_weight" sCkWeight f_ckWeight ["weight"])
(a_ckSteps:nsIn K mainGlobals "check_steps" = some (some (.ref f_ckSteps)))
(F_ckSteps:FunB K "check_steps" "check_steps" sCkSteps f_ckSteps ["steps"])
(a_ckPlaces:nsIn K mainGlobals "check_places" = some (some (.ref f_ckPlaces)))
(F_ckPlaces:FunB K "check_places" "check_places" sCkPlaces f_ckPlaces ["places"])
(a_ckRule:nsIn K mainGlobals "check_rule" = some (some (.ref f_ckRule)))
(F_ckRule:FunB K "check_rule" "check_rule" sCkRule f_ckRule ["span", "part"])
(a_ageings:nsIn K mainGlobals "ageings" = some (some (.ref f_ageings)))
(F_ageings:FunB K "ageings" "ageings" sAgeings f_ageings ["span", "since", "upto"])
(a_aged:nsIn K mainGlobals "aged" = some (some (.ref f_aged)))
(F_aged:FunB K "aged" "aged" sAged f_aged ["count", "part", "times"])
(a_cell:nsIn K mainGlobals "_law_cell_at" = some (some (.ref f_cell)))
(F_cell:FunB K "_law_cell_at" "_law_cell_at" sCellAt f_cell ["_law_script", "_law_k"])
(a_lwhole:nsIn K mainGlobals "_law_whole" = some (some (.ref f_lwhole)))
(F_lwhole:FunB K "_law_whole" "_law_whole" sLWhole f_lwhole ["_law_found"])
(a_sign:nsIn K mainGlobals "_law_sign" = some (some (.ref f_sign)))
(F_sign:FunB K "_law_sign" "_law_sign" sSign f_sign ["_law_number"])
(a_lnames:nsIn K mainGlobals "_law_names" = some (some (.ref f_lnames)))
(F_lnames:FunB K "_law_names" "_law_names" sLNames f_lnames ["_law_cell", "_law_many_here"])
(a_many:nsIn K mainGlobals "_law_many" = some (some (.ref f_many)))
(F_many:FunB K "_law_many" "_law_many" sMany f_many ["_law_cell"])
(a_span:nsIn K mainGlobals "_law_span" = some (some (.ref f_span)))
(F_span:FunB K "_law_span" "_law_span" sSpan f_span ["_law_cell"])
(a_part:nsIn K mainGlobals "_law_part" = some (some (.ref f_part)))
(F_part:FunB K "_law_part" "_law_part" sPart f_part ["_law_cell"])
(a_deed:nsIn K mainGlobals "_law_deed" = some (some (.ref f_deed)))
(F_deed:FunB K "_law_deed" "_law_deed" sDeed f_deed ["_law_cell", "_law_k", "_law_names_here", "_law_span_here", "_law_light"])
(a_do:nsIn K mainGlobals "_law_do" = some (some (.ref f_do)))
(F_do:FunB K "_law_do" "_law_do" sDo f_do ["_law_thing", "_law_deed_here"])
(a_depth:nsIn K mainGlobals "_law_depth_fits" = some (some (.ref f_depth)))
(F_depth:FunB K "_law_depth_fits" "_law_depth_fits" sDepth f_depth ["_law_found", "_law_sizes", "_law_answers_here"])
(a_answ:nsIn K mainGlobals "_law_answers" = some (some (.ref f_answ)))
(F_answ:FunB K "_law_answers" "_law_answers" sAnsw f_answ ["_law_deed_here", "_law_found", "_law_sizes", "_law_answers_here"])
(a_spotsFit:nsIn K mainGlobals "_law_spots_fit" = some (some (.ref f_spotsFit)))
(F_spotsFit:FunB K "_law_spots_fit" "_law_spots_fit" sSpotsFit f_spotsFit ["_law_spots", "_law_shelf", "_law_places", "_law_names_here"])
(a_allFit:nsIn K mainGlobals "_law_all_fit" = some (some (.ref f_allFit)))
(F_allFit:FunB K "_law_all_fit" "_law_all_fit" sAllFit f_allFit ["_law_row", "_law_shelves", "_law_sizes", "_law_names_here"])
(a_likeBook:nsIn K mainGlobals "_law_like_book" = some (some (.ref f_likeBook)))
(F_likeBook:FunB K "_law_like_book" "_law_like_book" sLikeBook f_likeBook ["_law_row", "_law_shelf", "_law_name"])
(aS:nsIn K mainGlobals "Shelf" = some (some (.ref CS)))
(aS_mrest:findIn K (.ref CS) "rest" = some (some (.ref m_rest)))
(i_mrest:isFn K (.ref m_rest) = true)
(k_mrest:keepIn K (.ref m_rest) = true)
(F_mrest:FunB K "rest" "Book.rest" sRest m_rest ["self", "steps"])
(aS_mstrength:findIn K (.ref CS) "strength" = some (some (.ref m_strength)))
(i_mstrength:isFn K (.ref m_strength) = true)
(k_mstrength:keepIn K (.ref m_strength) = true)
(F_mstrength:FunB K "strength" "Book.strength" sStrength m_strength ["self", "name"])
(aS_mbeginAsk:findIn K (.ref CS) "begin_ask" = some (some (.ref m_beginAsk)))
(i_mbeginAsk:isFn K (.ref m_beginAsk) = true)
(k_mbeginAsk:keepIn K (.ref m_beginAsk) = true)
(F_mbeginAsk:FunB K "begin_ask" "Book.begin_ask" sBeginAsk m_beginAsk ["self", "name", "weight"])
(aS_mgrow:findIn K (.ref CS) "grow" = some (some (.ref m_grow)))
(i_mgrow:isFn K (.ref m_grow) = true)
(k_mgrow:keepIn K (.ref m_grow) = true)
(F_mgrow:FunB K "grow" "Book.grow" sGrow m_grow ["self", "name", "weight"])
(aS_mbeginDrop:findIn K (.ref CS) "begin_drop" = some (some (.ref m_beginDrop)))
(i_mbeginDrop:isFn K (.ref m_beginDrop) = true)
(k_mbeginDrop:keepIn K (.ref m_beginDrop) = true)
(F_mbeginDrop:FunB K "begin_drop" "Book.begin_drop" sBeginDrop m_beginDrop ["self", "name"])
(aS_mpassTime:findIn K (.ref CS) "pass_time" = some (some (.ref m_passTime)))
(i_mpassTime:isFn K (.ref m_passTime) = true)
(k_mpassTime:keepIn K (.ref m_passTime) = true)
(F_mpassTime:FunB K "pass_time" "Book.pass_time" sPassTime m_passTime ["self", "steps"])
(aS_mageCounts:findIn K (.ref CS) "age_counts" = some (some (.ref m_ageCounts)))
(i_mageCounts:isFn K (.ref m_ageCounts) = true)
(k_mageCounts:keepIn K (.ref m_ageCounts) = true)
(F_mageCounts:FunB K "age_counts" "Book.age_counts" sAgeCounts m_ageCounts ["self", "times"])
(aS_mtimeNow:findIn K (.ref CS) "time_now" = some (some (.ref m_timeNow)))
(i_mtimeNow:isFn K (.ref m_timeNow) = true)
(k_mtimeNow:keepIn K (.ref m_timeNow) = true)
(F_mtimeNow:FunB K "time_now" "Book.time_now" sTimeNow m_timeNow ["self"])
(aS_mdeedsDone:findIn K (.ref CS) "deeds_done" = some (some (.ref m_deedsDone)))
(i_mdeedsDone:isFn K (.ref m_deedsDone) = true)
(k_mdeedsDone:keepIn K (.ref m_deedsDone) = true)
(F_mdeedsDone:FunB K "deeds_done" "Book.deeds_done" sDeedsDone m_deedsDone ["self"])
(aS_mcountOf:findIn K (.ref CS) "count_of" = some (some (.ref m_countOf)))
(i_mcountOf:isFn K (.ref m_countOf) = true)
(k_mcountOf:keepIn K (.ref m_countOf) = true)
(F_mcountOf:FunB K "count_of" "Book.count_of" sCountOf m_countOf ["self", "name"])
(aS_mlastOf:findIn K (.ref CS) "last_of" = some (some (.ref m_lastOf)))
(i_mlastOf:isFn K (.ref m_lastOf) = true)
(k_mlastOf:keepIn K (.ref m_lastOf) = true)
(F_mlastOf:FunB K "last_of" "Book.last_of" sLastOf m_lastOf ["self", "name"])
(aS_minOrder:findIn K (.ref CS) "in_order" = some (some (.ref m_inOrder)))
(i_minOrder:isFn K (.ref m_inOrder) = true)
(k_minOrder:keepIn K (.ref m_inOrder) = true)
(F_minOrder:FunB K "in_order" "Book.in_order" sInOrder m_inOrder ["self", "names"])
(aS_msinit:findIn K (.ref CS) "__init__" = some (some (.ref m_sinit)))
(i_msinit:isFn K (.ref m_sinit) = true)
(k_msinit:keepIn K (.ref m_sinit) = true)
(F_msinit:FunB K "__init__" "Shelf.__init__" sSInit m_sinit ["self", "places", "span", "part"])
(aS_msdrop:findIn K (.ref CS) "drop" = some (some (.ref m_sdrop)))
(i_msdrop:isFn K (.ref m_sdrop) = true)
(k_msdrop:keepIn K (.ref m_sdrop) = true)
(F_msdrop:FunB K "drop" "Shelf.drop" sSDrop m_sdrop ["self", "name"])
(aS_mtakeIn:findIn K (.ref CS) "take_in" = some (some (.ref m_takeIn)))
(i_mtakeIn:isFn K (.ref m_takeIn) = true)
(k_mtakeIn:keepIn K (.ref m_takeIn) = true)
(F_mtakeIn:FunB K "take_in" "Shelf.take_in" sTakeIn m_takeIn ["self", "name"])
(aS_mtakeOff:findIn K (.ref CS) "take_off" = some (some (.ref m_takeOff)))
(i_mtakeOff:isFn K (.ref m_takeOff) = true)
(k_mtakeOff:keepIn K (.ref m_takeOff) = true)
(F_mtakeOff:FunB K "take_off" "Shelf.take_off" sTakeOff m_takeOff ["self", "name", "reason", "count", "last"])
(aS_msfade:findIn K (.ref CS) "fade" = some (some (.ref m_sfade)))
(i_msfade:isFn K (.ref m_sfade) = true)
(k_msfade:keepIn K (.ref m_sfade) = true)
(F_msfade:FunB K "fade" "Shelf.fade" sSFade m_sfade ["self", "name", "last"])
(aS_msnames:findIn K (.ref CS) "names" = some (some (.ref m_snames)))
(i_msnames:isFn K (.ref m_snames) = true)
(k_msnames:keepIn K (.ref m_snames) = true)
(F_msnames:FunB K "names" "Shelf.names" sSNames m_snames ["self"])
(a_askS:findIn K (.ref CS) "ask" = some (some (.ref fAS)))
(i_askS:isFn K (.ref fAS) = true)
(k_askS:keepIn K (.ref fAS) = true)
(l_askS:K.lookup fAS = some ⟨ocAS, odAS, .func (fnOf "ask" "Shelf.ask" (defArgs sSAsk) (defBody sSAsk) (defScope sSAsk) (.ref TAS) kVAS dcAS pmAS anAS cdAS ctAS), slAS⟩)
(c_askS:codeIn K cdAS "Shelf.ask" = true)
(lt_askS:K.lookup TAS = some ⟨otAS, toAS, .seq dsAS nAS, tsAS⟩)
(d_askS:dsAS = [Value.int 1 t0S].toArray)
(pgS:plainGet K CS Str.empty = true)
(hdS:hasDictIn K CS = true)
(poS:plainOver K CS = true)
(saS:findIn K (.ref CS) "__setattr__" = some (some (.builtin "object.__setattr__")))
(mkS:makesIn K CS = true)
(kcS:keepIn K (.ref CS) = true)
(n1S:findIn K (.ref CS) "span" = some none)
(n2S:findIn K (.ref CS) "part" = some none)
(n3S:findIn K (.ref CS) "time" = some none)
(n4S:findIn K (.ref CS) "deeds" = some none)
(n5S:findIn K (.ref CS) "counts" = some none)
(n6S:findIn K (.ref CS) "lasts" = some none)
(n7S:findIn K (.ref CS) "places" = some none)
(n8S:findIn K (.ref CS) "standing" = some none)
(n9S:findIn K (.ref CS) "gone" = some none)
(aR:nsIn K mainGlobals "Row" = some (some (.ref CR)))
(aR_mrest:findIn K (.ref CR) "rest" = some (some (.ref m_rest)))
(aR_mstrength:findIn K (.ref CR) "strength" = some (some (.ref m_strength)))
(aR_mbeginAsk:findIn K (.ref CR) "begin_ask" = some (some (.ref m_beginAsk)))
(aR_mgrow:findIn K (.ref CR) "grow" = some (some (.ref m_grow)))
(aR_mbeginDrop:findIn K (.ref CR) "begin_drop" = some (some (.ref m_beginDrop)))
(aR_mpassTime:findIn K (.ref CR) "pass_time" = some (some (.ref m_passTime)))
(aR_mageCounts:findIn K (.ref CR) "age_counts" = some (some (.ref m_ageCounts)))
(aR_mtimeNow:findIn K (.ref CR) "time_now" = some (some (.ref m_timeNow)))
(aR_mdeedsDone:findIn K (.ref CR) "deeds_done" = some (some (.ref m_deedsDone)))
(aR_mcountOf:findIn K (.ref CR) "count_of" = some (some (.ref m_countOf)))
(aR_mlastOf:findIn K (.ref CR) "last_of" = some (some (.ref m_lastOf)))
(aR_minOrder:findIn K (.ref CR) "in_order" = some (some (.ref m_inOrder)))
(aR_mrinit:findIn K (.ref CR) "__init__" = some (some (.ref m_rinit)))
(i_mrinit:isFn K (.ref m_rinit) = true)
(k_mrinit:keepIn K (.ref m_rinit) = true)
(F_mrinit:FunB K "__init__" "Row.__init__" sRInit m_rinit ["self", "span", "part"])
(aR_mrdrop:findIn K (.ref CR) "drop" = some (some (.ref m_rdrop)))
(i_mrdrop:isFn K (.ref m_rdrop) = true)
(k_mrdrop:keepIn K (.ref m_rdrop) = true)
(F_mrdrop:FunB K "drop" "Row.drop" sRDrop m_rdrop ["self", "name"])
(aR_mspotOf:findIn K (.ref CR) "spot_of" = some (some (.ref m_spotOf)))
(i_mspotOf:isFn K (.ref m_spotOf) = true)
(k_mspotOf:keepIn K (.ref m_spotOf) = true)
(F_mspotOf:FunB K "spot_of" "Row.spot_of" sSpotOf m_spotOf ["self", "name"])
(aR_mleave:findIn K (.ref CR) "leave" = some (some (.ref m_leave)))
(i_mleave:isFn K (.ref m_leave) = true)
(k_mleave:keepIn K (.ref m_leave) = true)
(F_mleave:FunB K "leave" "Row.leave" sLeave m_leave ["self", "spot"])
(aR_mrfade:findIn K (.ref CR) "fade" = some (some (.ref m_rfade)))
(i_mrfade:isFn K (.ref m_rfade) = true)
(k_mrfade:keepIn K (.ref m_rfade) = true)
(F_mrfade:FunB K "fade" "Row.fade" sRFade m_rfade ["self", "name", "last"])
(aR_mbringIn:findIn K (.ref CR) "bring_in" = some (some (.ref m_bringIn)))
(i_mbringIn:isFn K (.ref m_bringIn) = true)
(k_mbringIn:keepIn K (.ref m_bringIn) = true)
(F_mbringIn:FunB K "bring_in" "Row.bring_in" sBringIn m_bringIn ["self", "name"])
(aR_mrnames:findIn K (.ref CR) "names" = some (some (.ref m_rnames)))
(i_mrnames:isFn K (.ref m_rnames) = true)
(k_mrnames:keepIn K (.ref m_rnames) = true)
(F_mrnames:FunB K "names" "Row.names" sRNames m_rnames ["self"])
(aR_mspots:findIn K (.ref CR) "spots" = some (some (.ref m_spots)))
(i_mspots:isFn K (.ref m_spots) = true)
(k_mspots:keepIn K (.ref m_spots) = true)
(F_mspots:FunB K "spots" "Row.spots" sSpots m_spots ["self"])
(aR_mnamesAt:findIn K (.ref CR) "names_at" = some (some (.ref m_namesAt)))
(i_mnamesAt:isFn K (.ref m_namesAt) = true)
(k_mnamesAt:keepIn K (.ref m_namesAt) = true)
(F_mnamesAt:FunB K "names_at" "Row.names_at" sNamesAt m_namesAt ["self", "places"])
(aR_mnamesOn:findIn K (.ref CR) "names_on" = some (some (.ref m_namesOn)))
(i_mnamesOn:isFn K (.ref m_namesOn) = true)
(k_mnamesOn:keepIn K (.ref m_namesOn) = true)
(F_mnamesOn:FunB K "names_on" "Row.names_on" sNamesOn m_namesOn ["self", "line"])
(a_askR:findIn K (.ref CR) "ask" = some (some (.ref fAR)))
(i_askR:isFn K (.ref fAR) = true)
(k_askR:keepIn K (.ref fAR) = true)
(l_askR:K.lookup fAR = some ⟨ocAR, odAR, .func (fnOf "ask" "Row.ask" (defArgs sRAsk) (defBody sRAsk) (defScope sRAsk) (.ref TAR) kVAR dcAR pmAR anAR cdAR ctAR), slAR⟩)
(c_askR:codeIn K cdAR "Row.ask" = true)
(lt_askR:K.lookup TAR = some ⟨otAR, toAR, .seq dsAR nAR, tsAR⟩)
(d_askR:dsAR = [Value.int 1 t0R].toArray)
(pgR:plainGet K CR Str.empty = true)
(hdR:hasDictIn K CR = true)
(poR:plainOver K CR = true)
(saR:findIn K (.ref CR) "__setattr__" = some (some (.builtin "object.__setattr__")))
(mkR:makesIn K CR = true)
(kcR:keepIn K (.ref CR) = true)
(n1R:findIn K (.ref CR) "span" = some none)
(n2R:findIn K (.ref CR) "part" = some none)
(n3R:findIn K (.ref CR) "time" = some none)
(n4R:findIn K (.ref CR) "deeds" = some none)
(n5R:findIn K (.ref CR) "counts" = some none)
(n6R:findIn K (.ref CR) "lasts" = some none)
(n7R:findIn K (.ref CR) "line" = some none)
(n8R:findIn K (.ref CR) "met_at" = some none)
(s_cm:specialIn K (.ref C0) "__getattribute__" = some (some (.builtin "type.__getattribute__")))
(r_cm:readsIn K C0 (.type "type") = true)
(f_cm:findCls K (.ref C0) (.type "type") "__init__" = some (CFound.val (.ref m_binit)))
(F_binit:FunB K "__init__" "Book.__init__" sInit m_binit ["self", "span", "part"])
(g_st:specialIn K (.ref m_strength) "__get__" = some (some (.builtin "function.__get__")))
(t_st:takesIn K (.ref m_strength) = some false)
(a_law:nsIn K mainGlobals "law" = some (some (.ref fL)))
(F_law:Fun K "law" "law" sLaw fL fd)
(b_law:∀ (s:Shared) (v:Value), BindsTo s fd ⟨[v], []⟩ [("_law_script", v)])
(z_isi:nsIn K mainGlobals "isinstance" = some none)
(z_len:nsIn K mainGlobals "len" = some none)
(z_all_:nsIn K mainGlobals "all" = some none)
(z_min_:nsIn K mainGlobals "min" = some none)
(z_range:nsIn K mainGlobals "range" = some none)
(z_list:nsIn K mainGlobals "list" = some none)
(z_sorted:nsIn K mainGlobals "sorted" = some none)
(z_enum:nsIn K mainGlobals "enumerate" = some none)
(z_int:nsIn K mainGlobals "int" = some none)
(z_bool:nsIn K mainGlobals "bool" = some none)
(z_str:nsIn K mainGlobals "str" = some none)
(z_zip:nsIn K mainGlobals "zip" = some none)
(z_set:nsIn K mainGlobals "set" = some none) :
   ∃ fd:FuncData, (∀ (s:Shared) (v:Value), BindsTo s fd ⟨[v], []⟩ [("_law_script", v)]) ∧ ∀ base:Heap, K.In base -> base.Ns mainGlobals mg -> FnOk l.prog w K mg base CX0 22 fa fd ["_law_script"] (spLaw K):=by
  have e:=hfa.symm.trans (mg_of X G a_law)
  cases e
  have B:Blt mg:=⟨mg_none_of X G z_isi, mg_none_of X G z_len, mg_none_of X G z_all_, mg_none_of X G z_min_, mg_none_of X G z_range, mg_none_of X G z_list, mg_none_of X G z_sorted, mg_none_of X G z_enum, mg_none_of X G z_int, mg_none_of X G z_bool, mg_none_of X G z_str⟩
  have b_zip:=mg_none_of X G z_zip
  have b_set:=mg_none_of X G z_set
  have hmB:=mg_of X G aB
  have cm:CMeth K C0 "__init__" m_binit:=⟨s_cm, r_cm, f_cm⟩
  have h_whole:=mg_of X G a_whole
  have h_name:=mg_of X G a_name
  have h_ckName:=mg_of X G a_ckName
  have h_ckWeight:=mg_of X G a_ckWeight
  have h_ckSteps:=mg_of X G a_ckSteps
  have h_ckPlaces:=mg_of X G a_ckPlaces
  have h_ckRule:=mg_of X G a_ckRule
  have h_ageings:=mg_of X G a_ageings
  have h_aged:=mg_of X G a_aged
  have h_cell:=mg_of X G a_cell
  have h_lwhole:=mg_of X G a_lwhole
  have h_sign:=mg_of X G a_sign
  have h_lnames:=mg_of X G a_lnames
  have h_many:=mg_of X G a_many
  have h_span:=mg_of X G a_span
  have h_part:=mg_of X G a_part
  have h_deed:=mg_of X G a_deed
  have h_do:=mg_of X G a_do
  have h_depth:=mg_of X G a_depth
  have h_answ:=mg_of X G a_answ
  have h_spotsFit:=mg_of X G a_spotsFit
  have h_allFit:=mg_of X G a_allFit
  have h_likeBook:=mg_of X G a_likeBook
  subst d_askS
  have F_askS:=funD_mk (st:=sSAsk) (ds:=[.int 1 t0S]) l_askS c_askS k_askS lt_askS
  have clS:Cls K CS:=⟨pgS, hdS, poS, saS⟩
  have TBS:BTxt K CS:=⟨clS, n1S, n2S, n3S, n4S, n5S, n6S⟩
  have TS:STxt K CS:=⟨TBS, n7S, n8S, n9S⟩
  have hmS:=mg_of X G aS
  have MS_rest:Meth K CS "rest" m_rest:=⟨aS_mrest, i_mrest, k_mrest⟩
  have MS_strength:Meth K CS "strength" m_strength:=⟨aS_mstrength, i_mstrength, k_mstrength⟩
  have MS_beginAsk:Meth K CS "begin_ask" m_beginAsk:=⟨aS_mbeginAsk, i_mbeginAsk, k_mbeginAsk⟩
  have MS_grow:Meth K CS "grow" m_grow:=⟨aS_mgrow, i_mgrow, k_mgrow⟩
  have MS_beginDrop:Meth K CS "begin_drop" m_beginDrop:=⟨aS_mbeginDrop, i_mbeginDrop, k_mbeginDrop⟩
  have MS_passTime:Meth K CS "pass_time" m_passTime:=⟨aS_mpassTime, i_mpassTime, k_mpassTime⟩
  have MS_ageCounts:Meth K CS "age_counts" m_ageCounts:=⟨aS_mageCounts, i_mageCounts, k_mageCounts⟩
  have MS_timeNow:Meth K CS "time_now" m_timeNow:=⟨aS_mtimeNow, i_mtimeNow, k_mtimeNow⟩
  have MS_deedsDone:Meth K CS "deeds_done" m_deedsDone:=⟨aS_mdeedsDone, i_mdeedsDone, k_mdeedsDone⟩
  have MS_countOf:Meth K CS "count_of" m_countOf:=⟨aS_mcountOf, i_mcountOf, k_mcountOf⟩
  have MS_lastOf:Meth K CS "last_of" m_lastOf:=⟨aS_mlastOf, i_mlastOf, k_mlastOf⟩
  have MS_inOrder:Meth K CS "in_order" m_inOrder:=⟨aS_minOrder, i_minOrder, k_minOrder⟩
  have MS_sinit:Meth K CS "__init__" m_sinit:=⟨aS_msinit, i_msinit, k_msinit⟩
  have MS_sdrop:Meth K CS "drop" m_sdrop:=⟨aS_msdrop, i_msdrop, k_msdrop⟩
  have MS_takeIn:Meth K CS "take_in" m_takeIn:=⟨aS_mtakeIn, i_mtakeIn, k_mtakeIn⟩
  have MS_takeOff:Meth K CS "take_off" m_takeOff:=⟨aS_mtakeOff, i_mtakeOff, k_mtakeOff⟩
  have MS_sfade:Meth K CS "fade" m_sfade:=⟨aS_msfade, i_msfade, k_msfade⟩
  have MS_snames:Meth K CS "names" m_snames:=⟨aS_msnames, i_msnames, k_msnames⟩
  have MS_ask:Meth K CS "ask" fAS:=⟨a_askS, i_askS, k_askS⟩
  have mkS:Mk K CS m_sinit:=⟨mkS, aS_msinit, i_msinit, kcS⟩
  have MVS:MethV K CS "strength" m_strength:=⟨MS_strength, g_st, t_st, by decide⟩
  subst d_askR
  have F_askR:=funD_mk (st:=sRAsk) (ds:=[.int 1 t0R]) l_askR c_askR k_askR lt_askR
  have clR:Cls K CR:=⟨pgR, hdR, poR, saR⟩
  have TBR:BTxt K CR:=⟨clR, n1R, n2R, n3R, n4R, n5R, n6R⟩
  have TR:RTxt K CR:=⟨TBR, n7R, n8R⟩
  have hmR:=mg_of X G aR
  have MR_rest:Meth K CR "rest" m_rest:=⟨aR_mrest, i_mrest, k_mrest⟩
  have MR_strength:Meth K CR "strength" m_strength:=⟨aR_mstrength, i_mstrength, k_mstrength⟩
  have MR_beginAsk:Meth K CR "begin_ask" m_beginAsk:=⟨aR_mbeginAsk, i_mbeginAsk, k_mbeginAsk⟩
  have MR_grow:Meth K CR "grow" m_grow:=⟨aR_mgrow, i_mgrow, k_mgrow⟩
  have MR_beginDrop:Meth K CR "begin_drop" m_beginDrop:=⟨aR_mbeginDrop, i_mbeginDrop, k_mbeginDrop⟩
  have MR_passTime:Meth K CR "pass_time" m_passTime:=⟨aR_mpassTime, i_mpassTime, k_mpassTime⟩
  have MR_ageCounts:Meth K CR "age_counts" m_ageCounts:=⟨aR_mageCounts, i_mageCounts, k_mageCounts⟩
  have MR_timeNow:Meth K CR "time_now" m_timeNow:=⟨aR_mtimeNow, i_mtimeNow, k_mtimeNow⟩
  have MR_deedsDone:Meth K CR "deeds_done" m_deedsDone:=⟨aR_mdeedsDone, i_mdeedsDone, k_mdeedsDone⟩
  have MR_countOf:Meth K CR "count_of" m_countOf:=⟨aR_mcountOf, i_mcountOf, k_mcountOf⟩
  have MR_lastOf:Meth K CR "last_of" m_lastOf:=⟨aR_mlastOf, i_mlastOf, k_mlastOf⟩
  have MR_inOrder:Meth K CR "in_order" m_inOrder:=⟨aR_minOrder, i_minOrder, k_minOrder⟩
  have MR_rinit:Meth K CR "__init__" m_rinit:=⟨aR_mrinit, i_mrinit, k_mrinit⟩
  have MR_rdrop:Meth K CR "drop" m_rdrop:=⟨aR_mrdrop, i_mrdrop, k_mrdrop⟩
  have MR_spotOf:Meth K CR "spot_of" m_spotOf:=⟨aR_mspotOf, i_mspotOf, k_mspotOf⟩
  have MR_leave:Meth K CR "leave" m_leave:=⟨aR_mleave, i_mleave, k_mleave⟩
  have MR_rfade:Meth K CR "fade" m_rfade:=⟨aR_mrfade, i_mrfade, k_mrfade⟩
  have MR_bringIn:Meth K CR "bring_in" m_bringIn:=⟨aR_mbringIn, i_mbringIn, k_mbringIn⟩
  have MR_rnames:Meth K CR "names" m_rnames:=⟨aR_mrnames, i_mrnames, k_mrnames⟩
  have MR_spots:Meth K CR "spots" m_spots:=⟨aR_mspots, i_mspots, k_mspots⟩
  have MR_namesAt:Meth K CR "names_at" m_namesAt:=⟨aR_mnamesAt, i_mnamesAt, k_mnamesAt⟩
  have MR_namesOn:Meth K CR "names_on" m_namesOn:=⟨aR_mnamesOn, i_mnamesOn, k_mnamesOn⟩
  have MR_ask:Meth K CR "ask" fAR:=⟨a_askR, i_askR, k_askR⟩
  have mkR:Mk K CR m_rinit:=⟨mkR, aR_mrinit, i_mrinit, kcR⟩
  have MVR:MethV K CR "strength" m_strength:=⟨MR_strength, g_st, t_st, by decide⟩
  refine ⟨fd, b_law, fun base _ _=>?_⟩
  have g_whole:=ok_whole (P:=l.prog) (w:=w) (base:=base) F_whole B
  have g_name:=ok_name (P:=l.prog) (w:=w) (base:=base) F_name B
  have g_ckName:=ok_ckName F_ckName g_name h_name
  have g_ckWeight:=ok_ckWeight F_ckWeight g_whole h_whole
  have g_ckSteps:=ok_ckSteps F_ckSteps g_whole h_whole
  have g_ckPlaces:=ok_ckPlaces F_ckPlaces g_whole h_whole
  have g_ckRule:=ok_ckRule F_ckRule g_whole h_whole
  have g_ageings:=ok_ageings (P:=l.prog) (w:=w) (mg:=mg) (base:=base) F_ageings
  have g_aged:=ok_aged (P:=l.prog) (w:=w) (base:=base) F_aged B
  have oS_strength:=ok_strength (P:=l.prog) (w:=w) (mg:=mg) (base:=base) (shelves CS) F_mstrength TBS
  have oS_grow:=ok_grow (P:=l.prog) (w:=w) (mg:=mg) (base:=base) (shelves CS) F_mgrow TBS
  have oS_takeOff:=ok_takeOff (P:=l.prog) (w:=w) (mg:=mg) (base:=base) F_mtakeOff TS
  have oS_fade:=ok_sFade F_msfade TS oS_takeOff MS_takeOff
  have oS_ageCounts:=ok_ageCounts (shelves CS) fadeS F_mageCounts TBS B g_aged h_aged oS_fade MS_sfade
  have oS_passTime:=ok_passTime (shelves CS) fadeS F_mpassTime TBS g_ageings h_ageings oS_ageCounts MS_ageCounts
  have oS_beginAsk:=ok_beginAsk (shelves CS) fadeS F_mbeginAsk TBS g_ckName h_ckName g_ckWeight h_ckWeight oS_passTime MS_passTime
  have oS_rest:=ok_rest (shelves CS) fadeS F_mrest TBS g_ckSteps h_ckSteps oS_passTime MS_passTime
  have oS_beginDrop:=ok_beginDrop (shelves CS) F_mbeginDrop TBS g_ckName h_ckName
  have oS_binit:=ok_init F_binit TBS g_ckRule h_ckRule
  have oS_drop:=ok_sDrop F_msdrop TS oS_beginDrop MS_beginDrop oS_takeOff MS_takeOff
  have oS_takeIn:=ok_takeIn F_mtakeIn TS B oS_takeOff MS_takeOff oS_strength MVS
  have oS_ask:=ok_sAsk F_askS TS oS_beginAsk MS_beginAsk oS_grow MS_grow oS_takeIn MS_takeIn
  have oS_init:=ok_sInit F_msinit TS g_ckPlaces h_ckPlaces hmB cm oS_binit
  have oS_time:=ok_time (P:=l.prog) (w:=w) (mg:=mg) (base:=base) (shelves CS) F_mtimeNow TBS
  have oS_deeds:=ok_deeds (P:=l.prog) (w:=w) (mg:=mg) (base:=base) (shelves CS) F_mdeedsDone TBS
  have oS_count:=ok_countOf (shelves CS) F_mcountOf TBS g_ckName h_ckName
  have oS_last:=ok_lastOf (shelves CS) F_mlastOf TBS g_ckName h_ckName
  have oS_inOrder:=ok_inOrder (shelves CS) F_minOrder TBS B oS_strength MVS
  have oS_names:=ok_sNames F_msnames TS oS_inOrder MS_inOrder
  have oR_strength:=ok_strength (P:=l.prog) (w:=w) (mg:=mg) (base:=base) (rows CR) F_mstrength TBR
  have oR_grow:=ok_grow (P:=l.prog) (w:=w) (mg:=mg) (base:=base) (rows CR) F_mgrow TBR
  have oR_spotOf:=ok_spotOf (P:=l.prog) (w:=w) (mg:=mg) (base:=base) F_mspotOf TR
  have oR_leave:=ok_leave (P:=l.prog) (w:=w) (mg:=mg) (base:=base) F_mleave TR
  have oR_fade:=ok_rFade F_mrfade TR oR_spotOf MR_spotOf oR_leave MR_leave
  have oR_ageCounts:=ok_ageCounts (rows CR) fadeR F_mageCounts TBR B g_aged h_aged oR_fade MR_rfade
  have oR_passTime:=ok_passTime (rows CR) fadeR F_mpassTime TBR g_ageings h_ageings oR_ageCounts MR_ageCounts
  have oR_beginAsk:=ok_beginAsk (rows CR) fadeR F_mbeginAsk TBR g_ckName h_ckName g_ckWeight h_ckWeight oR_passTime MR_passTime
  have oR_rest:=ok_rest (rows CR) fadeR F_mrest TBR g_ckSteps h_ckSteps oR_passTime MR_passTime
  have oR_beginDrop:=ok_beginDrop (rows CR) F_mbeginDrop TBR g_ckName h_ckName
  have oR_binit:=ok_init F_binit TBR g_ckRule h_ckRule
  have oR_drop:=ok_rDrop F_mrdrop TR oR_beginDrop MR_beginDrop oR_spotOf MR_spotOf oR_leave MR_leave
  have oR_bringIn:=ok_bringIn F_mbringIn TR B oR_strength MR_strength
  have oR_ask:=ok_rAsk F_askR TR oR_beginAsk MR_beginAsk oR_grow MR_grow oR_spotOf MR_spotOf oR_leave MR_leave oR_bringIn MR_bringIn
  have oR_init:=ok_rInit F_mrinit TR hmB cm oR_binit
  have oR_time:=ok_time (P:=l.prog) (w:=w) (mg:=mg) (base:=base) (rows CR) F_mtimeNow TBR
  have oR_deeds:=ok_deeds (P:=l.prog) (w:=w) (mg:=mg) (base:=base) (rows CR) F_mdeedsDone TBR
  have oR_count:=ok_countOf (rows CR) F_mcountOf TBR g_ckName h_ckName
  have oR_last:=ok_lastOf (rows CR) F_mlastOf TBR g_ckName h_ckName
  have oR_inOrder:=ok_inOrder (rows CR) F_minOrder TBR B oR_strength MVR
  have oR_namesOn:=ok_namesOn F_mnamesOn TR oR_inOrder MR_inOrder
  have oR_names:=ok_rNames F_mrnames TR oR_namesOn MR_namesOn
  have oR_spots:=ok_spots (P:=l.prog) (w:=w) (base:=base) F_mspots B TR
  have oR_namesAt:=ok_namesAt F_mnamesAt TR g_ckPlaces h_ckPlaces oR_namesOn MR_namesOn
  have g_cell:=ok_cell (P:=l.prog) (w:=w) (base:=base) F_cell B
  have g_lwhole:=ok_lwhole (P:=l.prog) (w:=w) (base:=base) F_lwhole B
  have g_sign:=ok_sign (P:=l.prog) (w:=w) (mg:=mg) (base:=base) F_sign
  have g_lnames:=ok_lnames F_lnames B g_sign h_sign
  have g_many:=ok_many (P:=l.prog) (w:=w) (mg:=mg) (base:=base) F_many
  have g_span:=ok_span (P:=l.prog) (w:=w) (mg:=mg) (base:=base) F_span
  have g_part:=ok_part (P:=l.prog) (w:=w) (mg:=mg) (base:=base) F_part
  have g_deed:=ok_deed (P:=l.prog) (w:=w) (base:=base) F_deed B
  have gS_do:=ok_do F_do clS oS_ask (askS_binds0 F_askS) (askS_binds1 F_askS) MS_ask (oS_rest.mono (k:=18) (by decide)) MS_rest (oS_drop.mono (k:=18) (by decide)) MS_sdrop
  have gR_do:=ok_do F_do clR oR_ask (askR_binds0 F_askR) (askR_binds1 F_askR) MR_ask (oR_rest.mono (k:=18) (by decide)) MR_rest (oR_drop.mono (k:=18) (by decide)) MR_rdrop
  have g_depth:=ok_depth F_depth B b_zip g_lwhole h_lwhole
  have g_answ:=ok_answ F_answ B g_lwhole h_lwhole g_depth h_depth
  have g_spotsFit:=ok_spotsFit F_spotsFit B b_set TS oS_names MS_snames
  have RGG:RG l.prog w K mg base CR:=⟨_, oR_names, MR_rnames, _, oR_time, MR_timeNow, _, oR_deeds, MR_deedsDone, _, oR_count, MR_countOf, _, oR_last, MR_lastOf, _, oR_spots, MR_spots, _, oR_namesAt, MR_namesAt⟩
  have SGG:SG l.prog w K mg base CS:=⟨_, oS_names, MS_snames, _, oS_time, MS_timeNow, _, oS_deeds, MS_deedsDone, _, oS_count, MS_countOf, _, oS_last, MS_lastOf⟩
  have g_likeBook:=ok_likeBook F_likeBook TR TS RGG SGG
  have g_allFit:=ok_allFit F_allFit B b_zip TR TS RGG SGG g_spotsFit h_spotsFit
  exact ok_law F_law B TR TS ⟨_, g_cell, h_cell, _, g_lnames, h_lnames, _, g_many, h_many, _, g_span, h_span, _, g_part, h_part, _, g_deed, h_deed, _, gS_do.imp (fun _ _ _ _ z=>doS_do z), gR_do.imp (fun _ _ _ _ z=>doR_do z), h_do, _, g_answ, h_answ, _, g_spotsFit, h_spotsFit, _, g_likeBook, h_likeBook, _, g_allFit, h_allFit⟩ RGG SGG mkR oR_init hmR mkS oS_init hmS
theorem walk {l:PySem.W.OpenLaw} {q:Program} {loose:List Str} {XP:(Str -> Option Value) -> Heap -> Prop} {YP:World -> Heap -> Prop} {d:DefRec} {K:Params -> PySem.W.Frag} (hn:l.most = some 63) (hdf:d.params.defaults = [])
  (hY:∀ (w:World) (h:Heap), YP w h -> (K w.params).In h)
  (F:∀ (w:World) (mg:Str -> Option Value) (fa:Addr) (h:Heap), (K w.params).In h -> h.Ns mainGlobals mg -> mg d.name = some (.ref fa) ->
    ∃ fd:FuncData, (∀ (s:Shared) (u:Value), BindsTo s fd ⟨[u], []⟩ [("_law_script", u)]) ∧ ∀ base:Heap, (K w.params).In base -> base.Ns mainGlobals mg -> FnOk l.prog w (K w.params) mg base CX0 22 fa fd ["_law_script"] (spLaw (K w.params))) :
  PySem.W.WalkO q loose XP YP l.row.toRowW d [] (fun f vs=>PySem.call f vs):=
 L2.walk_of (n:=63) (k:=22) (x:="_law_script") (CX:=fun _=>CX0) (sp:=fun w=>spLaw (K w.params)) hn (by decide) hdf ⟨rfl, by decide, by decide⟩ hY F (fun _ _ a ns hl _ hS=>⟨a, ns, rfl, hS, hl, fun _=>rfl⟩) fun _ _ _ _ _ z=>z
end Lk
open PySem PySem.W PyProof.Rows
set_option maxRecDepth 100000 in
set_option maxHeartbeats 0 in
theorem PySem.Challenge.cw_leastasked_k08_whole_one_row_holds : PySem.Challenge.rw_leastasked_k08_whole_one_row.Holds := by
 w_on; o_law
 refine holds_open (q:=Lk.view) (loose:=["Row", "Shelf"]) (Xt:=Lk.seenX) (XP:=XL Lk.view []) (Yf:=(kHook Lk.KK Lk.KA Lk.ka).obs) (Ya:=(kHook Lk.KK Lk.KA Lk.ka).val) (YP:=(kHook Lk.KK Lk.KA Lk.ka).says) (N:=7208) Lk.left (kHook Lk.KK Lk.KA Lk.ka).of (kHook Lk.KK Lk.KA Lk.ka).keeps (fun s e=>xl_of s (Bool.and_eq_true_iff.mp e).1) XL.keeps (by rfl) (by rfl) (by rfl) (fun s e=>recFacts_of (Bool.and_eq_true_iff.mp e).2) (by rfl) (by first | assumption | decide +kernel) (by decide +kernel) ⟨rfl, rfl, rfl, rfl, rfl, by decide +kernel⟩ ?hw ?hc
 case hw=>w_witness2
 case hc=>
 k_fill
 refine Lk.walk (l:=PySem.Challenge.rw_leastasked_k08_whole_one_row) rfl rfl (fun w h Y=>PySem.W.kIn_of (K:=Lk.KK) (as:=Lk.KA) (e:=Lk.ka) Y) ?F
 case F=>
  intro w mg fa h KX G hmg
  refine' Lk.all_mk KX G hmg ?_ ?_ ?_ ?_ ?_ ?_ ?_ ?_ ?_ ?_ ?_ ?_ ?_ ?_ ?_ ?_ ?_ ?_ ?_ ?_ ?_ ?_ ?_ ?_ ?_ ?_ ?_ ?_ ?_ ?_ ?_ ?_ ?_ ?_ ?_ ?_ ?_ ?_ ?_ ?_ ?_ ?_ ?_ ?_ ?_ ?_ ?_ ?_ ?_ ?_ ?_ ?_ ?_ ?_ ?_ ?_ ?_ ?_ ?_ ?_ ?_ ?_ ?_ ?_ ?_ ?_ ?_ ?_ ?_ ?_ ?_ ?_ ?_ ?_ ?_ ?_ ?_ ?_ ?_ ?_ ?_ ?_ ?_ ?_ ?_ ?_ ?_ ?_ ?_ ?_ ?_ ?_ ?_ ?_ ?_ ?_ ?_ ?_ ?_ ?_ ?_ ?_ ?_ ?_ ?_ ?_ ?_ ?_ ?_ ?_ ?_ ?_ ?_ ?_ ?_ ?_ ?_ ?_ ?_ ?_ ?_ ?_ ?_ ?_ ?_ ?_ ?_ ?_ ?_ ?_ ?_ ?_ ?_ ?_ ?_ ?_ ?_ ?_ ?_ ?_ ?_ ?_ ?_ ?_ ?_ ?_ ?_ ?_ ?_ ?_ ?_ ?_ ?_ ?_ ?_ ?_ ?_ ?_ ?_ ?_ ?_ ?_ ?_ ?_ ?_ ?_ ?_ ?_ ?_ ?_ ?_ ?_ ?_ ?_ ?_ ?_ ?_ ?_ ?_ ?_ ?_ ?_ ?_ ?_ ?_ ?_ ?_ ?_ ?_ ?_ ?_ ?_ ?_ ?_ ?_ ?_ ?_ ?_ ?_ ?_ ?_ ?_ ?_ ?_ ?_ ?_ ?_ ?_ ?_ ?_ ?_ ?_ ?_ ?_ ?_ ?_ ?_ ?_ ?_ ?_ ?_ ?_ ?_ ?_ ?_ ?_ ?_ ?_ ?_ ?_ ?_ ?_ ?_ ?_ ?_ ?_ ?_ ?_
  any_goals first
   | k_is
   | exact rfl
   | exact fun s v=>.of_eq rfl
   | (refine' L2.fun_mk ?l ?c ?k; (case l=>k_is); (case c=>k_is); (case k=>k_is))
   | (refine' L2.funB_mk ?l ?c ?k ?h; (case l=>k_is); (case c=>k_is); (case k=>k_is); (case h=>first | (exact fun _ _ _ _ _ _ us hl=>match us, hl with | [_], _=>rfl) | (exact fun _ _ _ _ _ _ us hl=>match us, hl with | [_, _], _=>rfl) | (exact fun _ _ _ _ _ _ us hl=>match us, hl with | [_, _, _], _=>rfl) | (exact fun _ _ _ _ _ _ us hl=>match us, hl with | [_, _, _, _], _=>rfl) | (exact fun _ _ _ _ _ _ us hl=>match us, hl with | [_, _, _, _, _], _=>rfl)))
